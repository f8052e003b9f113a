import PyProof.Rows.All
import Wide.All
import OpenK.AllK
import Wide.FinOn
import HandS.Base
import HandS.Call
import HandS.List
import HandS.Comp
import HandS.Ends
import HandS.EndBits
import HandS.Iter
import HandS.Text
import HandS.TupAny
import HandS.Deep
import HandS.IsInst
import HandS.NoneIn
import HandS.Words
import HandS.WordsList
import HandS.WordsExc
import HandS.ExcInit
import HandS.ExcIs
import HandS.Walk
import KE.IntBitsLaws
import KE.DataMinMax
import KE.SortData
import KE.GoesMore
import KE.GoesEnum
import KE.KExcIs
import HandS.ExcField
import HandS.TryOnly
import PyProof.ReprRoads
import PyProof.Rows.RegFStrParts
import HandS.Dict
import HandS.WordsDict
import HandS.Conv
import HandS.TupLen
import HandS.SortInts
import PyProof.AutoSeq1
import HandS.RaiseMore
import HandS.TupMul
import PyProof.Rows.StrReprFit
import PyProof.Rows.ReprShort
import PyProof.EnumMake
import PyProof.ListStr
import HandS.Property
import HandS.Star
import HandS.More
import OpenK.KOps
import PyProof.StrLawsIn
import HandS.DictComp
import HandS.OwnEq
import HandS.Codes
import HandS.TryMany
import HandS.Flow
import KE.SortKeyHeap
import HandS.SortKw
import KE.DatumOrd
import HandS.OwnIter
import PyProof.InstSpecial
import PyProof.TupleIter
import PyProof.FactsLen
import HandS.DictSubView
import HandS.StrMore
import HandS.Strs
import PySem.Challenge.RW_shrunkalike_k57_whole_roots
set_option Elab.async false
set_option linter.all false
set_option maxRecDepth 100000
namespace Wp
open PySem PySem.Spec PyProof.Rows L2
/-! unions of the layer's rules, by the kinds of their operands -/
def rLt : R2 := fun x y H Q => rI0 (fun i j => .bl (decide (i < j))) x y H Q ∨ ∃ i j, x = .str i ∧ y = .str j ∧ Q (.bl (decide (i.cps.toList < j.cps.toList))) H
def rLeD (K : PySem.W.Frag) : R2 := fun x y H Q => ∃ d e, Dp K H x d ∧ Dp K H y e ∧ PySem.W.alike d e = true ∧ d ≠ .none ∧ d.depth ≤ 60 ∧ Q (.bl (!PySem.W.dataLt e d)) H
def rLe (K : PySem.W.Frag) : R2 := fun x y H Q => rI0 (fun i j => .bl (decide (i ≤ j))) x y H Q ∨ (∃ i j, x = .str i ∧ y = .str j ∧ Q (.bl (!decide (j.cps.toList < i.cps.toList))) H) ∨ rLeD K x y H Q
def rInSg (neg : Bool) : R2 := fun x y H Q => ∃ (c : Nat) (z : Str), x = .str ⟨#[c]⟩ ∧ y = .str z ∧ Q (.bl (if neg then !decide (c ∈ z.cps.toList) else decide (c ∈ z.cps.toList))) H
def rGt : R2 := rI0 (fun i j => .bl (decide (j < i)))
def rGe : R2 := rI0 (fun i j => .bl (decide (j ≤ i)))
def rEqU (K : PySem.W.Frag) : R2 := fun x y H Q => rEq x y H Q ∨ rEqD K x y H Q
def rNeU (K : PySem.W.Frag) : R2 := fun x y H Q => rNe x y H Q ∨ rNeD K x y H Q
def rInStr (neg : Bool) : R2 := fun x y H Q => ∃ i j, x = .str i ∧ y = .str j ∧ Q (.bl (if neg then !(!(Builtin.Str.occurrences j i 0 j.length 1).isEmpty) else !(Builtin.Str.occurrences j i 0 j.length 1).isEmpty)) H
def rInU (K : PySem.W.Frag) : R2 := fun x y H Q => rInSg false x y H Q ∨ rInStr false x y H Q ∨ rInD K x y H Q
def rNinU (K : PySem.W.Frag) : R2 := fun x y H Q => rInStr true x y H Q ∨ rNotInD K x y H Q
def rAddU (K : PySem.W.Frag) : R2 := fun x y H Q => rI0 (fun i j => .int (i + j)) x y H Q ∨ (∃ i j, x = .str i ∧ y = .str j ∧ i.length + j.length ≤ sizeLine ∧ Q (.str (i ++ j)) H) ∨ rCatA K x y H Q ∨ rCat x y H Q
def rMulU : R2 := fun x y H Q => rI CMul (fun i j => .int (i * j)) x y H Q ∨ rRep x y H Q
def CShl (i j : Int) : Prop := 0 ≤ j ∧ (Builtin.Int.intBits i : Int) + j ≤ 2 ^ 27
def rSlU (K : PySem.W.Frag) : V → Option Int → Option Int → Hp → VK → Prop := fun x l u H Q => rSlL K x l u H Q ∨ rSlA K x l u H Q ∨ rSlS x l u H Q
def rInt : List V → Hp → VK → Prop := fun xs H Q => (∃ i, xs = [V.int i] ∧ Q (.int i) H) ∨ ∃ k, xs = [V.bl k] ∧ Q (.int (if k then 1 else 0)) H
def rLenU (K : PySem.W.Frag) : List V → Hp → VK → Prop := fun xs H Q => ∃ x n, xs = [x] ∧ LenV K x H n ∧ Q (.int n) H
def rAbs : List V → Hp → VK → Prop := fun xs H Q => ∃ i, xs = [.int i] ∧ Q (.int (if i < 0 then -i else i)) H
def rMax2 : List V → Hp → VK → Prop := fun xs H Q => ∃ i j, xs = [.int i, .int j] ∧ Q (.int (if j > i then j else i)) H
def rMin2 : List V → Hp → VK → Prop := fun xs H Q => ∃ i j, xs = [.int i, .int j] ∧ Q (.int (if j < i then j else i)) H
def rTupOf (K : PySem.W.Frag) : List V → Hp → VK → Prop := fun xs H Q => ∃ p ys, xs = [.ref p] ∧ ((SqL K H p ys ∧ ∀ l, H l = none → Q (.ref l) (upd H l (.tup ys))) ∨ (SqT K H p ys ∧ Q (.ref p) H))
def rLstOf (K : PySem.W.Frag) : List V → Hp → VK → Prop := fun xs H Q => ∃ p ys, xs = [.ref p] ∧ (SqL K H p ys ∨ SqT K H p ys) ∧ ∀ l, H l = none → Q (.ref l) (upd H l (.lst ys))
def rIsU (K : PySem.W.Frag) : List V → Hp → VK → Prop := fun xs H Q => rIsi K xs H Q ∨ rIsiT K xs H Q
section
variable {X : Cx}
theorem wo_lt : OpR X (compareOp .Lt) rLt := op_lt.or op_lt_str
theorem op_leD (hu : X.A.units + 64 < cLine) : OpR X (compareOp .LtE) (rLeD X.K) := by
  intro pins s σ H x y v u Q I rx ry h
  obtain ⟨d, e, hd, he, al, nn, dp, q⟩ := h
  obtain ⟨as, r1⟩ := Dp.reads I d x v hd rx
  obtain ⟨bs, r2⟩ := Dp.reads I e y u he ry
  have hm : min d.depth e.depth ≤ d.depth := Nat.min_le_left _ _
  exact PySem.W.le_data r1 r2 al nn (by omega) ⟨.bl _, H, I, rfl, q⟩
theorem wo_le {K : PySem.W.Frag} (hu : X.A.units + 64 < cLine) (hK : X.K = K := by rfl) : OpR X (compareOp .LtE) (rLe K) := by subst hK; exact op_le.or (op_le_str.or (op_leD hu))
theorem wo_gt : OpR X (compareOp .Gt) rGt := op_gt
theorem wo_ge : OpR X (compareOp .GtE) rGe := op_ge
theorem wo_eq {K : PySem.W.Frag} (hu : X.A.units + 64 < cLine) (hK : X.K = K := by rfl) : OpR X (compareOp .Eq) (rEqU K) := by subst hK; exact op_eq.or (op_eqD hu)
theorem wo_ne {K : PySem.W.Frag} (hu : X.A.units + 64 < cLine) (hK : X.K = K := by rfl) : OpR X (compareOp .NotEq) (rNeU K) := by subst hK; exact op_ne.or (op_neD hu)
theorem wo_in {K : PySem.W.Frag} (hu : X.A.units + 65 < cLine) (hK : X.K = K := by rfl) : OpR X (compareOp .In) (rInU K) := by subst hK; exact op_in_sign.or (op_in_str.or (op_inD hu))
theorem wo_nin {K : PySem.W.Frag} (hu : X.A.units + 65 < cLine) (hK : X.K = K := by rfl) : OpR X (compareOp .NotIn) (rNinU K) := by subst hK; exact op_notin_str.or (op_notInD hu)
theorem wo_add {K : PySem.W.Frag} (hK : X.K = K := by rfl) : OpR X (binaryOp .Add) (rAddU K) := by subst hK; exact op_add.or (op_add_str.or (op_catA.or op_cat))
theorem wo_mul : OpR X (binaryOp .Mult) rMulU := op_mul.or op_rep
theorem op_shlB : OpR X (binaryOp .LShift) (rI CShl fun i j => .int (i * 2 ^ j.toNat)) := opI fun _ _ _ _ _ _ _ hc q => PyProof.Rows.lshift_int hc.1 hc.2 q
theorem ws_any {K : PySem.W.Frag} (hK : X.K = K := by rfl) : SlR X (rSlU K) := by subst hK; exact sl_list.or (sl_tupA.or sl_str)
theorem wx_seq {K : PySem.W.Frag} (hK : X.K = K := by rfl) : IxR X (rIx K) := by subst hK; exact ix_seq
theorem wi_list {tg l : Expr} {tl : TE} {K : PySem.W.Frag} (hl : PE X l tl) (hK : X.K = K := by rfl) : PI X tg l (iList K tl) := by subst hK; exact pi_list hl
theorem wi_tup {tg l : Expr} {tl : TE} {K : PySem.W.Frag} (hl : PE X l tl) (hK : X.K = K := by rfl) : PI X tg l (iTup K tl) := by subst hK; exact pi_tup hl
theorem wc_all {K : PySem.W.Frag} (hc : X.calm = true) (hK : X.K = K := by rfl) : CallR X (.builtin "all") (rAll K) := by subst hK; exact cr_all hc
theorem wc_int : CallR X (.type "int") rInt := call_int1
theorem wc_len {K : PySem.W.Frag} (hK : X.K = K := by rfl) : CallR X (.builtin "len") (rLenU K) := by subst hK; exact call_len
theorem wc_abs : CallR X (.builtin "abs") rAbs := call_abs
theorem wc_min (hc : X.calm = true) : CallR X (.builtin "min") rMin2 := call_min2 hc
theorem wc_tuple {K : PySem.W.Frag} (hK : X.K = K := by rfl) : CallR X (.type "tuple") (rTupOf K) := by subst hK; exact call_tuple_of
theorem wc_isi {K : PySem.W.Frag} (hK : X.K = K := by rfl) : CallR X (.builtin "isinstance") (rIsU K) := by subst hK; exact call_isi.or call_isiT
def gTupU (K : PySem.W.Frag) (n : Nat) (t : TGs) : TG := fun v σ H Q => gTup K n t v σ H Q ∨ gUnl K n t v σ H Q
theorem wg_tup {es : List Expr} {k : Nat} {t : TGs} {n : Nat} {pos : Pos} {K : PySem.W.Frag} (hc : X.calm = true) (h : PGs X es t) (hn : (assignEach es X.env).length = n := by rfl) (hst : (assignEach es X.env).findIdx? (·.1) = none := by rfl) (hK : X.K = K := by rfl) :
    PG X (.Tuple es k pos) (gTupU K n t) := by
  subst hK
  exact ⟨fun pins s σ H v u Q I r hw => hw.elim (fun hw => (pg_tup hc h hn hst).run pins s σ H v u Q I r hw) (fun hw => (pg_unl hc h hn hst).run pins s σ H v u Q I r hw)⟩
theorem u65 {k : Nat} {A : Around} (r : Room k A) : A.units + 65 < cLine := by have := r.un; omega
end
def tTru (K : PySem.W.Frag) (ta : TE) : TT := fun σ H Q => ta σ H fun x H' => ∃ k, TruV K x H' k ∧ Q k H'
theorem wt_truth {X : Cx} {K : PySem.W.Frag} {a : Expr} {ta : TE} (ha : PE X a ta) (he : ∀ whole, isTrue a X.env whole = (do let v ← whole; standAt a.pos; holding [v] (truthy v))) (hK : X.K = K := by rfl) : PT X a (tTru K ta) := by subst hK; exact pt_truth ha he
/-! one step of a reading -/
section
variable {σ : L2.St} {H : Hp} {Q : VK} {D : Ends} {K : PySem.W.Frag}
theorem seq {t u : TS} (h : t ⟨u D, D.rt, D.bk, D.ct⟩ σ H) : tSeq t u D σ H := h
theorem asg {te : TE} {g : TG} (h : te σ H fun x H1 => g x σ H1 D.nx) : tAsg te g D σ H := h
theorem ret {te : TE} (h : te σ H D.rt) : tRet te D σ H := h
theorem retN (h : D.rt .non H) : tRetN D σ H := h
theorem drop {te : TE} (h : te σ H fun _ H1 => D.nx σ H1) : tDrop te D σ H := h
theorem nxt (h : D.nx σ H) : tNext D σ H := h
theorem ifs {c : TT} {t u : TS} (h : c σ H fun b H1 => if b = true then t D σ H1 else u D σ H1) : tIfS c t u D σ H := h
theorem gname {i : Nat} {v : V} {R : L2.St → Hp → Prop} (h : R (σ.set i (some v)) H) : gName i v σ H R := h
theorem var {i : Nat} {v : V} (e : σ[i]? = some (some v)) (h : Q v H) : tVar i σ H Q := ⟨v, e, h⟩
theorem cst {v : V} (h : Q v H) : tC v σ H Q := h
theorem op {r : R2} {ta tb : TE} (h : ta σ H fun x H1 => tb σ H1 fun y H2 => r x y H2 Q) : tOp r ta tb σ H Q := h
theorem un {r : V → Hp → VK → Prop} {ta : TE} (h : ta σ H fun x H1 => r x H1 Q) : tUn r ta σ H Q := h
theorem tst {t : TE} {R : Bool → Hp → Prop} (h : t σ H fun x H' => ∃ k, x = .bl k ∧ R k H') : tTest t σ H R := h
theorem tb' {t : TE} {R : Bool → Hp → Prop} (h : t σ H fun x H' => ∃ k, x = .bl k ∧ R k H') : tB t σ H R := h
theorem tnot {t : TT} {R : Bool → Hp → Prop} (h : t σ H fun c H1 => R (!c) H1) : tNot t σ H R := h
theorem tand {t u : TT} {R : Bool → Hp → Prop} (h : t σ H fun c H1 => if c = true then u σ H1 R else R false H1) : tAnd t u σ H R := h
theorem tor {t u : TT} {R : Bool → Hp → Prop} (h : t σ H fun c H1 => if c = true then R true H1 else u σ H1 R) : tOr t u σ H R := h
theorem tandV {ta tb : TE} (h : ta σ H fun x H1 => ∃ c, x = .bl c ∧ if c = true then tb σ H1 Q else Q (.bl false) H1) : tAndV ta tb σ H Q := h
theorem torV {ta tb : TE} (h : ta σ H fun x H1 => ∃ c, x = .bl c ∧ if c = true then Q (.bl true) H1 else tb σ H1 Q) : tOrV ta tb σ H Q := h
theorem tnotV {ta : TE} (h : ta σ H fun x H1 => ∃ c, x = .bl c ∧ Q (.bl (!c)) H1) : tNotV ta σ H Q := h
theorem tif {t : TT} {ta tb : TE} (h : t σ H fun c H1 => if c = true then ta σ H1 Q else tb σ H1 Q) : tIf t ta tb σ H Q := h
theorem tchain {r r' : R2} {ta tb tc : TE} (h : ta σ H fun x H1 => tb σ H1 fun y H2 => r x y H2 fun z H3 => ∃ k, z = .bl k ∧ (if k = true then tc σ H3 fun w' H4 => r' y w' H4 Q else Q (.bl false) H3)) : tChain r r' ta tb tc σ H Q := h
theorem cb {r : List V → Hp → VK → Prop} {t : TA} (h : t σ H fun vs H1 => r vs H1 Q) : tCB r t σ H Q := h
theorem call {sp : Sp} {dvs : List V} {E : XK} {t : TA} (h : t σ H fun vs H1 => sp (vs ++ dvs) H1 Q E) : tCall sp dvs E t σ H Q := h
theorem cons {ta : TE} {tr : TA} {R : List V → Hp → Prop} (h : ta σ H fun x H1 => tr σ H1 fun xs H2 => R (x :: xs) H2) : tCons ta tr σ H R := h
theorem nil {R : List V → Hp → Prop} (h : R [] H) : tNil σ H R := h
theorem sl {r : V → Option Int → Option Int → Hp → VK → Prop} {te : TE} {tl th : TO} (h : te σ H fun x H1 => tl σ H1 fun l H2 => th σ H2 fun u H3 => r x l u H3 Q) : tSl r te tl th σ H Q := h
theorem nopart {R : Option Int → Hp → Prop} (h : R none H) : tNoPart σ H R := h
theorem part {te : TE} {R : Option Int → Hp → Prop} (h : te σ H fun x H1 => ∃ i, x = .int i ∧ R (some i) H1) : tPart te σ H R := h
theorem gsub {to ti : TE} {t : TSet} {v : V} {R : L2.St → Hp → Prop} (h : to σ H fun o H1 => ti σ H1 fun i H2 => t o i v H2 fun H3 => R σ H3) : gSub to ti t v σ H R := h
theorem lst {t : TA} (h : t σ H fun xs H1 => xs.length ≤ sizeLine ∧ ∀ p, H1 p = none → Q (.ref p) (upd H1 p (.lst xs))) : tLst t σ H Q := h
theorem tup {t : TA} (h : t σ H fun xs H1 => xs.length ≤ sizeLine ∧ ∀ p, H1 p = none → Q (.ref p) (upd H1 p (.tup xs))) : tTup t σ H Q := h
theorem szl {xs : List V} {P : Prop} (h : xs.length ≤ 1000) (q : P) : xs.length ≤ sizeLine ∧ P := ⟨Nat.le_of_lt (small1000 h), q⟩
theorem ei {i : Int} {R : Int → Prop} (h : R i) : ∃ j, V.int i = V.int j ∧ R j := ⟨i, rfl, h⟩
theorem eb {k : Bool} {R : Bool → Prop} (h : R k) : ∃ c, V.bl k = V.bl c ∧ R c := ⟨k, rfl, h⟩
/-! operators by values -/
theorem i0 {g : Int → Int → V} {i j : Int} (h : Q (g i j) H) : rI0 g (.int i) (.int j) H Q := ⟨i, j, rfl, rfl, h⟩
theorem ltI {i j : Int} (h : Q (.bl (decide (i < j))) H) : rLt (.int i) (.int j) H Q := .inl ⟨i, j, rfl, rfl, h⟩
theorem ltS {i j : Str} (h : Q (.bl (decide (i.cps.toList < j.cps.toList))) H) : rLt (.str i) (.str j) H Q := .inr ⟨i, j, rfl, rfl, h⟩
theorem leI {i j : Int} (h : Q (.bl (decide (i ≤ j))) H) : rLe K (.int i) (.int j) H Q := .inl ⟨i, j, rfl, rfl, h⟩
theorem leS {i j : Str} (h : Q (.bl (!decide (j.cps.toList < i.cps.toList))) H) : rLe K (.str i) (.str j) H Q := .inr (.inl ⟨i, j, rfl, rfl, h⟩)
theorem inSg {c : Nat} {z : Str} (h : Q (.bl (decide (c ∈ z.cps.toList))) H) : rInU K (.str ⟨#[c]⟩) (.str z) H Q := .inl ⟨c, z, rfl, rfl, h⟩
theorem allL {a : Addr} {bs : List Bool} (s : SqL K H a (bs.map V.bl)) (h : Q (.bl (bs.all id)) H) : rAll K [.ref a] H Q := ⟨a, bs, rfl, s, h⟩
theorem gtI {i j : Int} (h : Q (.bl (decide (j < i))) H) : rGt (.int i) (.int j) H Q := ⟨i, j, rfl, rfl, h⟩
theorem geI {i j : Int} (h : Q (.bl (decide (j ≤ i))) H) : rGe (.int i) (.int j) H Q := ⟨i, j, rfl, rfl, h⟩
theorem eqI {i j : Int} (h : Q (.bl (decide (i = j))) H) : rEqU K (.int i) (.int j) H Q := .inl ⟨rfl, by
  have e : decide (V.int i = V.int j) = decide (i = j) := decide_eq_decide.mpr ⟨fun z => V.int.inj z, fun z => by rw [z]⟩
  rw [e]; exact h⟩
theorem neI {i j : Int} (h : Q (.bl (!decide (i = j))) H) : rNeU K (.int i) (.int j) H Q := .inl ⟨rfl, by
  have e : decide (V.int i = V.int j) = decide (i = j) := decide_eq_decide.mpr ⟨fun z => V.int.inj z, fun z => by rw [z]⟩
  rw [e]; exact h⟩
theorem eqS {i j : Str} (h : Q (.bl (decide (i = j))) H) : rEqU K (.str i) (.str j) H Q := .inl ⟨rfl, by
  have e : decide (V.str i = V.str j) = decide (i = j) := decide_eq_decide.mpr ⟨fun z => V.str.inj z, fun z => by rw [z]⟩
  rw [e]; exact h⟩
theorem neS {i j : Str} (h : Q (.bl (!decide (i = j))) H) : rNeU K (.str i) (.str j) H Q := .inl ⟨rfl, by
  have e : decide (V.str i = V.str j) = decide (i = j) := decide_eq_decide.mpr ⟨fun z => V.str.inj z, fun z => by rw [z]⟩
  rw [e]; exact h⟩
theorem addI {i j : Int} (h : Q (.int (i + j)) H) : rAddU K (.int i) (.int j) H Q := .inl ⟨i, j, rfl, rfl, h⟩
theorem addS {i j : Str} (z : i.length + j.length ≤ sizeLine) (h : Q (.str (i ++ j)) H) : rAddU K (.str i) (.str j) H Q := .inr (.inl ⟨i, j, rfl, rfl, z, h⟩)
theorem addL {x y : V} (h : rCat x y H Q) : rAddU K x y H Q := .inr (.inr (.inr h))
theorem fm {i j : Int} (h : 0 < j) : 0 ≤ i.fmod j ∧ i.fmod j < j := ⟨Int.fmod_nonneg_of_pos i h, Int.fmod_lt_of_pos i h⟩
theorem mulM {x n j : Int} (h : 0 < n) (h2 : n < 2 ^ 64) (q : Q (.int (x.fmod n * j)) H) : rMulU (.int (x.fmod n)) (.int j) H Q :=
  .inl ⟨_, _, rfl, rfl, .inl ⟨by have := (fm (i := x) h).1; omega, by have := (fm (i := x) h).2; omega⟩, q⟩
theorem mulL {i j : Int} (h : -(2 ^ 64) < i ∧ i < 2 ^ 64) (q : Q (.int (i * j)) H) : rMulU (.int i) (.int j) H Q := .inl ⟨_, _, rfl, rfl, .inl h, q⟩
theorem mulR {i j : Int} (h : -(2 ^ 64) < j ∧ j < 2 ^ 64) (q : Q (.int (i * j)) H) : rMulU (.int i) (.int j) H Q := .inl ⟨_, _, rfl, rfl, .inr h, q⟩
theorem modP {i j : Int} {g : Int → Int → V} (h : j ≠ 0) (q : Q (g i j) H) : rI (fun _ j => j ≠ 0) g (.int i) (.int j) H Q := ⟨i, j, rfl, rfl, h, q⟩
theorem divN {i j : Int} {g : Int → Int → V} (h : j ≠ 0) (h2 : j.natAbs < 1073741824) (q : Q (g i j) H) : rI CDivN g (.int i) (.int j) H Q := ⟨i, j, rfl, rfl, ⟨h, h2⟩, q⟩
theorem powS {i j : Int} {g : Int → Int → V} (h : 0 ≤ j ∧ j ≤ 1000000 ∧ i.natAbs < 2 ^ 64) (q : Q (g i j) H) : rI CPow g (.int i) (.int j) H Q := ⟨i, j, rfl, rfl, h, q⟩
theorem shr {i j : Int} {g : Int → Int → V} (h : 0 ≤ j) (q : Q (g i j) H) : rI (fun _ j => 0 ≤ j) g (.int i) (.int j) H Q := ⟨i, j, rfl, rfl, h, q⟩
theorem shl {i j : Int} {g : Int → Int → V} (h : CShl i j) (q : Q (g i j) H) : rI CShl g (.int i) (.int j) H Q := ⟨i, j, rfl, rfl, h, q⟩
theorem int1 {i : Int} (h : Q (.int i) H) : rInt [.int i] H Q := .inl ⟨i, rfl, h⟩
theorem ixl {p : Addr} {xs : List V} {i : Int} {v : V} (s : SqL K H p xs) (e : atI xs i = some v) (h : Q v H) : rIx K (.ref p) (.int i) H Q := .inl ⟨p, xs, i, v, rfl, rfl, s, e, h⟩
theorem ixt {p : Addr} {xs : List V} {i : Int} {v : V} (s : SqT K H p xs) (e : atI xs i = some v) (h : Q v H) : rIx K (.ref p) (.int i) H Q := .inr (.inl ⟨p, xs, i, v, rfl, rfl, s, e, h⟩)
theorem ixs {z : Str} {i : Int} {c : Nat} (s : z.length ≤ sizeLine) (e : atI z.cps.toList i = some c) (h : Q (.str ⟨#[c]⟩) H) : rIx K (.str z) (.int i) H Q := .inr (.inr ⟨z, i, c, rfl, rfl, s, e, h⟩)
theorem setl {p : Addr} {xs : List V} {k : Int} {j : Nat} {v : V} {R : Hp → Prop} (e : H p = some (.lst xs)) (hj : ixN xs.length k = some j) (h : R (upd H p (.lst (xs.set j v)))) : rSetL (.ref p) (.int k) v H R := ⟨p, xs, k, j, rfl, rfl, e, hj, h⟩
theorem sll {p : Addr} {xs : List V} {lo hi : Option Int} (s : SqL K H p xs) (h : ∀ q, H q = none → Q (.ref q) (upd H q (.lst (cutV xs lo hi)))) : rSlU K (.ref p) lo hi H Q := .inl ⟨p, xs, rfl, s, h⟩
theorem lenL {p : Addr} {xs : List V} (s : SqL K H p xs) (h : Q (.int xs.length) H) : rLenU K [.ref p] H Q := ⟨_, _, rfl, .inl ⟨_, s, rfl⟩, h⟩
theorem lenT {p : Addr} {xs : List V} (s : SqT K H p xs) (h : Q (.int xs.length) H) : rLenU K [.ref p] H Q := ⟨_, _, rfl, .inr ⟨_, s, rfl⟩, h⟩
theorem lenS {z : Str} (s : z.length ≤ sizeLine) (h : Q (.int z.length) H) : rLenU K [.str z] H Q := ⟨_, _, rfl, ⟨s, rfl⟩, h⟩
theorem abs {i : Int} (h : Q (.int (if i < 0 then -i else i)) H) : rAbs [.int i] H Q := ⟨i, rfl, h⟩
theorem max2 {i j : Int} (h : Q (.int (if j > i then j else i)) H) : rMax2 [.int i, .int j] H Q := ⟨i, j, rfl, h⟩
theorem min2 {i j : Int} (h : Q (.int (if j < i then j else i)) H) : rMin2 [.int i, .int j] H Q := ⟨i, j, rfl, h⟩
theorem tupL {p : Addr} {xs : List V} (s : SqL K H p xs) (h : ∀ l, H l = none → Q (.ref l) (upd H l (.tup xs))) : rTupOf K [.ref p] H Q := ⟨p, xs, rfl, .inl ⟨s, h⟩⟩
theorem tupT {p : Addr} {xs : List V} (s : SqT K H p xs) (h : Q (.ref p) H) : rTupOf K [.ref p] H Q := ⟨p, xs, rfl, .inr ⟨s, h⟩⟩
theorem lstL {p : Addr} {xs : List V} (s : SqL K H p xs) (h : ∀ l, H l = none → Q (.ref l) (upd H l (.lst xs))) : rLstOf K [.ref p] H Q := ⟨p, xs, rfl, .inl s, h⟩
theorem itd {p A B : Prop} [Decidable p] (h1 : p → A) (h2 : ¬ p → B) : if decide p = true then A else B := by
  by_cases h : p
  · rw [decide_eq_true h, if_pos rfl]; exact h1 h
  · rw [decide_eq_false h, if_neg Bool.false_ne_true]; exact h2 h
theorem itn {p A B : Prop} [Decidable p] (h1 : ¬ p → A) (h2 : p → B) : if (!decide p) = true then A else B := by
  by_cases h : p
  · rw [decide_eq_true h]; exact iteF (h2 h)
  · rw [decide_eq_false h]; exact iteT (h1 h)
theorem itb {b : Bool} {A B : Prop} (h1 : b = true → A) (h2 : b = false → B) : if b = true then A else B := by
  cases b with
  | true => exact iteT (h1 rfl)
  | false => exact iteF (h2 rfl)
theorem itnb {b : Bool} {A B : Prop} (h1 : b = false → A) (h2 : b = true → B) : if (!b) = true then A else B := by
  cases b with
  | true => exact iteF (h2 rfl)
  | false => exact iteT (h1 rfl)
theorem iteC {c : Prop} [Decidable c] {A B : Prop} (hc : c) (h : A) : if c then A else B := by rw [if_pos hc]; exact h
theorem iteD {c : Prop} [Decidable c] {A B : Prop} (hc : ¬ c) (h : B) : if c then A else B := by rw [if_neg hc]; exact h
/-- cuts: what follows is named, and met once -/
theorem cutS {t : TS} (P : L2.St → Hp → Prop) (h : ∀ nx : L2.St → Hp → Prop, (∀ σ' H', P σ' H' → nx σ' H') → t ⟨nx, D.rt, D.bk, D.ct⟩ σ H) (hn : ∀ σ' H', P σ' H' → D.nx σ' H') : t D σ H := h D.nx hn
theorem cutQ {t u : TS} (P : L2.St → Hp → Prop) (h : ∀ nx : L2.St → Hp → Prop, (∀ σ' H', P σ' H' → nx σ' H') → t ⟨nx, D.rt, D.bk, D.ct⟩ σ H) (hn : ∀ σ' H', P σ' H' → u D σ' H') : tSeq t u D σ H := h (u D) hn
theorem cutT {t : TT} {R : Bool → Hp → Prop} (P : Bool → Hp → Prop) (h : ∀ R' : Bool → Hp → Prop, (∀ v H', P v H' → R' v H') → t σ H R') (hn : ∀ v H', P v H' → R v H') : t σ H R := h R hn
/-! walks -/
def FORg (J : It) (g : TG) (tb : TS) (D : Ends) (σ : L2.St) (H1 : Hp) : Prop := ∃ W : Nat → Nat → L2.St → Hp → Prop, (∃ m, W 0 m σ H1) ∧ ∀ i m σ H, W i m σ H →
  (J.stop i H ∧ D.nx σ H) ∨ (J.go i H ∧ ∃ N : L2.St → Hp → Prop, (∀ σ' H', N σ' H' → ∃ m', m' < m ∧ W (i + 1) m' σ' H') ∧ ∀ x H', J.yld i H x H' → g x σ H' fun σ2 H2 => tb { D with nx := N, ct := N, bk := D.nx } σ2 H2)
def LCg (J : It) (g : TG) (tt : TT) (te : TE) (vs : List Nat) (σ : L2.St) (Q : VK) (H1 : Hp) (D : Addr) : Prop := ∃ W : Nat → Nat → Hp → Prop, (∃ m, W 0 m (upd H1 D (.lst []))) ∧ ∀ i m H, W i m H →
  (J.stop i H ∧ Q (.ref D) H) ∨ (J.go i H ∧ ∃ Nx : Hp → Prop, (∀ H', Nx H' → ∃ m', m' < m ∧ W (i + 1) m' H') ∧ ∀ x H', J.yld i H x H' → g x (wipe σ vs) H' fun σ2 H2 => wipe σ2 vs = wipe σ vs ∧ tt σ2 H2 fun b H3 =>
    if b = true then te σ2 H3 fun y H4 => ∃ acc, H4 D = some (.lst acc) ∧ acc.length < sizeLine ∧ Nx (upd H4 D (.lst (acc ++ [y]))) else Nx H3)
theorem for_ {wi : TI} {g : TG} {tb : TS} (h : wi σ H fun J H1 => FORg J g tb D σ H1) : tFor wi g tb D σ H := h
theorem lc {wi : TI} {g : TG} {tt : TT} {te : TE} {vs : List Nat} (h : wi σ H fun J H1 => ∀ A, H1 A = none → LCg J g tt te vs σ Q H1 A) : tLc wi g tt te vs σ H Q := h
theorem forIt {J : It} {n : Nat} {G : Hp → Prop} {Y : Nat → Hp → V → Hp → Prop} (w : L2.Walk J n G Y) {g : TG} {tb : TS} (Pv : Nat → L2.St → Hp → Prop) (h0 : Pv 0 σ H) (hG : ∀ i σ H, i ≤ n → Pv i σ H → G H)
    (hs : ∀ i x σ H H', i < n → Pv i σ H → Y i H x H' → g x σ H' fun σ2 H2 => tb { D with nx := Pv (i + 1), ct := Pv (i + 1), bk := D.nx } σ2 H2) (hd : ∀ σ H, Pv n σ H → D.nx σ H) : FORg J g tb D σ H := for_it w Pv h0 hG hs hd
theorem lcIt {J : It} {n : Nat} {G : Hp → Prop} {Y : Nat → Hp → V → Hp → Prop} (w : L2.Walk J n G Y) {g : TG} {tt : TT} {te : TE} {vs : List Nat} {A : Addr} (Pv : Nat → Hp → Prop) (h0 : Pv 0 (upd H A (.lst []))) (hG : ∀ i H, i ≤ n → Pv i H → G H)
    (hs : ∀ i x H1 H', i < n → Pv i H1 → Y i H1 x H' → g x (wipe σ vs) H' fun σ2 H2 => wipe σ2 vs = wipe σ vs ∧ tt σ2 H2 fun b H3 =>
      if b = true then te σ2 H3 fun y H4 => ∃ acc, H4 A = some (.lst acc) ∧ acc.length < sizeLine ∧ Pv (i + 1) (upd H4 A (.lst (acc ++ [y]))) else Pv (i + 1) H3) (hd : ∀ H1, Pv n H1 → Q (.ref A) H1) : LCg J g tt te vs σ Q H A := lc_it w Pv h0 hG hs hd
theorem istr {te : TE} {R : It → Hp → Prop} (h : te σ H fun v H1 => ∃ x, v = .str x ∧ R (Its x) H1) : iStr te σ H R := h
theorem ilist {te : TE} {R : It → Hp → Prop} (h : te σ H fun x H1 => ∃ a, x = .ref a ∧ (∃ xs, SqL K H1 a xs) ∧ R (Itl K a) H1) : iList K te σ H R := h
theorem itup {te : TE} {R : It → Hp → Prop} (h : te σ H fun x H1 => ∃ a, x = .ref a ∧ (∃ xs, SqT K H1 a xs) ∧ R (Itt K a) H1) : iTup K te σ H R := h
theorem irng1 {ta : TA} {R : It → Hp → Prop} (h : ta σ H fun vs H1 => ∃ j : Int, vs = [.int j] ∧ -(2 ^ 62) ≤ j ∧ j < 2 ^ 62 ∧ R (Itr 0 j.toNat) H1) : iRng1 ta σ H R := h
theorem gt {n : Nat} {t : TGs} {p : Addr} {xs : List V} {R : L2.St → Hp → Prop} (s : SqT K H p xs) (e : xs.length = n) (h : t xs σ H R) : gTupU K n t (.ref p) σ H R := .inl ⟨p, xs, rfl, s, e, h⟩
theorem gl {n : Nat} {t : TGs} {p : Addr} {xs : List V} {R : L2.St → Hp → Prop} (s : SqL K H p xs) (e : xs.length = n) (h : t xs σ H R) : gTupU K n t (.ref p) σ H R := .inr ⟨p, xs, rfl, s, e, h⟩
theorem gnil {R : L2.St → Hp → Prop} (h : R σ H) : gNil [] σ H R := ⟨rfl, h⟩
theorem gcons {t : TG} {u : TGs} {v : V} {r : List V} {R : L2.St → Hp → Prop} (h : t v σ H fun σ' H' => u r σ' H' R) : gCons t u (v :: r) σ H R := ⟨v, r, rfl, h⟩
theorem tru {ta : TE} {R : Bool → Hp → Prop} (h : ta σ H fun x H' => ∃ k, TruV K x H' k ∧ R k H') : tTru K ta σ H R := h
theorem u1 {g : Int → V} {i : Int} (h : Q (g i) H) : rU g (.int i) H Q := ⟨i, rfl, h⟩
theorem bm {T : String} {r : V → List V → Hp → VK → Prop} {te : TE} {t : TA} (h : te σ H fun x H1 => tyV K T x H1 ∧ t σ H1 fun vs H2 => r x vs H2 Q) : tBM K T r te t σ H Q := h
theorem tyl {p : Addr} {xs : List V} {P : Prop} (s : H p = some (.lst xs)) (h : P) : tyV K "list" (.ref p) H ∧ P := ⟨.inl ⟨rfl, xs, SqL.of s⟩, h⟩
theorem app {p : Addr} {xs : List V} {y : V} (s : H p = some (.lst xs)) (hl : xs.length < sizeLine) (h : Q .non (upd H p (.lst (xs ++ [y])))) : rAppend (.ref p) [y] H Q := ⟨p, xs, y, rfl, rfl, s, hl, h⟩
theorem wbm {X : Cx} {K : PySem.W.Frag} {T : String} {r : V → List V → Hp → VK → Prop} {e : Expr} {te : TE} {t : TA} (h : PE X e (tBM X.K T r te t)) (hK : X.K = K := by rfl) : PE X e (tBM K T r te t) := by subst hK; exact h
theorem yes {R : Bool → Hp → Prop} (h : R true H) : tYes σ H R := h
theorem es {z : Str} {R : Str → Prop} (h : R z) : ∃ y, V.str z = V.str y ∧ R y := ⟨z, rfl, h⟩
theorem er {p : Addr} {R : Addr → Prop} (h : R p) : ∃ y, V.ref p = V.ref y ∧ R y := ⟨p, rfl, h⟩
theorem wp {σ' : L2.St} {vs : List Nat} {P : Prop} (e : wipe σ' vs = wipe σ vs) (h : P) : wipe σ' vs = wipe σ vs ∧ P := ⟨e, h⟩
theorem same_upd {p : Addr} {o : HO} (h : H p = none) : Same H (upd H p o) := fun b x e => by rw [upd_ne (ne_of_none e h)]; exact e
theorem st {t : TS} {σ' : L2.St} (e : σ = σ') (h : t D σ' H) : t D σ H := by rw [e]; exact h
end
theorem bitsShr {c : Int} {m : Nat} (n : Nat) (h : Builtin.Int.intBits c ≤ m) : Builtin.Int.intBits ((if c < 0 then -c else c) / 2 ^ n) ≤ m := by
  refine PySem.intBits_le_of_natAbs (y := c) ?_ h
  have h1 : (0 : Int) ≤ (if c < 0 then -c else c) := by split <;> omega
  have h2 := Int.ediv_nonneg h1 (two_pow_nn n)
  have h3 := Int.ediv_le_self (2 ^ n) h1
  have h4 : (if c < 0 then -c else c).natAbs = c.natAbs := by split <;> omega
  omega
/-- all but what stands at a is as it was -/
def Keep (a : Addr) (H H' : Hp) : Prop := ∀ b o, b ≠ a → H b = some o → H' b = some o
theorem Keep.upd (a : Addr) (H : Hp) (o : HO) : Keep a H (upd H a o) := fun b u hb e => by rw [upd_ne hb]; exact e
theorem Keep.refl (a : Addr) (H : Hp) : Keep a H H := fun _ _ _ e => e
theorem Keep.trans {a : Addr} {H H1 H2 : Hp} (x : Keep a H H1) (y : Keep a H1 H2) : Keep a H H2 := fun b o hb e => y b o hb (x b o hb e)
theorem Keep.of {a : Addr} {H H' : Hp} (x : Same H H') : Keep a H H' := fun b o _ e => x b o e
/-- the built-ins that the text leaves as they are -/
structure Blt (mg : Str → Option Value) : Prop where
  int : mg "int" = none
  len : mg "len" = none
  range : mg "range" = none
  abs : mg "abs" = none
  max : mg "max" = none
  min : mg "min" = none
  tuple : mg "tuple" = none
  list : mg "list" = none
  str : mg "str" = none
  bool : mg "bool" = none
  sorted : mg "sorted" = none
  repr : mg "repr" = none
  isinstance : mg "isinstance" = none
  enumerate : mg "enumerate" = none
  all : mg "all" = none
/-- a def of the text, as a caller needs it -/
structure Dh (K : PySem.W.Frag) (mg : Str → Option Value) (x : Str) (f : Addr) (fd : FuncData) (ps : List Str) : Prop where
  g : mg x = some (.ref f)
  k : PySem.W.keepIn K (.ref f) = true
  b : Binds K fd ps []
end Wp
set_option Elab.async false
set_option linter.all false
set_option maxRecDepth 100000
namespace Wp
open PySem PySem.Spec PyProof.Rows L2
section
variable {K : PySem.W.Frag} {H H' : Hp}
theorem sameT {a : Addr} {xs : List V} (e : Same H H') (h : SqT K H a xs) : SqT K H' a xs := by
  rcases h with (h | ⟨o, h⟩) | h
  · exact .inl (.inl (e _ _ h))
  · exact .inl (.inr ⟨o, e _ _ h⟩)
  · exact .inr h
mutual
theorem dp_same (s : Same H H') : ∀ (d : PyData) (v : V), Dp K H v d → Dp K H' v d
  | .none, _, h => by cases h; exact .non
  | .bool b, _, h => by cases h; exact .bl b
  | .int i, _, h => by cases h; exact .int i
  | .str x, _, h => by cases h; exact .str x
  | .list ds, _, h => by
    cases h with
    | lst hs ha => exact .lst (s.seq hs) (dps_same s ds _ ha)
  | .tuple ds, _, h => by
    cases h with
    | tup hs ha => exact .tup (sameT s hs) (dps_same s ds _ ha)
  | .dict _, _, h => by cases h
theorem dps_same (s : Same H H') : ∀ (ds : List PyData) (vs : List V), DpAll K H vs ds → DpAll K H' vs ds
  | [], _, h => by cases h; exact .nil
  | d :: ds, _, h => by
    cases h with
    | cons h1 h2 => exact .cons (dp_same s d _ h1) (dps_same s ds _ h2)
end
theorem dps_len : ∀ {vs : List V} {ds : List PyData}, DpAll K H vs ds → vs.length = ds.length
  | _, _, .nil => rfl
  | _, _, .cons _ t => by rw [List.length_cons, List.length_cons, dps_len t]
theorem dps_get : ∀ {vs : List V} {ds : List PyData} {i : Nat} {v : V}, DpAll K H vs ds → vs[i]? = some v → ∃ d, ds[i]? = some d ∧ Dp K H v d
  | _, _, _, _, .nil, e => by simp at e
  | _, _, 0, _, .cons r _, e => by simp at e; subst e; exact ⟨_, rfl, r⟩
  | _, _, i + 1, _, .cons _ t, e => by
    obtain ⟨d, h1, h2⟩ := dps_get (i := i) t (by simpa using e)
    exact ⟨d, by simpa using h1, h2⟩
theorem dps_append : ∀ {vs ws : List V} {ds es : List PyData}, DpAll K H vs ds → DpAll K H ws es → DpAll K H (vs ++ ws) (ds ++ es)
  | _, _, _, _, .nil, h => h
  | _, _, _, _, .cons r t, h => .cons r (dps_append t h)
/-- the name of a thing's type -/
def tyN : PyData → String
  | .none => "NoneType"
  | .bool _ => "bool"
  | .int _ => "int"
  | .str _ => "str"
  | .list _ => "list"
  | .tuple _ => "tuple"
  | .dict _ => "dict"
theorem sql_ty {a : Addr} {xs : List V} (h : SqL K H a xs) : TyX K H (.ref a) (.type "list") := by
  rcases h with (h | ⟨o, h⟩) | ⟨o, its, n, h, c, _⟩
  · exact .base (.lst h)
  · exact .base (.frz h)
  · exact .kList h c
theorem sqt_ty {a : Addr} {xs : List V} (h : SqT K H a xs) : TyX K H (.ref a) (.type "tuple") := by
  rcases h with (h | ⟨o, h⟩) | ⟨o, its, n, h, c, _⟩
  · exact .base (.tup h)
  · exact .fTuple h
  · exact .kTuple h c
theorem dp_ty {v : V} {d : PyData} (h : Dp K H v d) : TyX K H v (.type (tyN d)) := by
  cases h with
  | non => exact .base .non
  | bl b => exact .base (.bl b)
  | int i => exact .base (.int i)
  | str x => exact .base (.str x)
  | lst hs _ => exact sql_ty hs
  | tup hs _ => exact sqt_ty hs
/-- isinstance(x, T) of plain data -/
theorem isi1 {v : V} {d : PyData} {n : String} {b : Bool} {Q : VK} (h : Dp K H v d) (e : kitB (tyN d) n = some b) (q : Q (.bl b) H) : rIsU K [v, .ty n] H Q :=
  .inl ⟨v, .ty n, _, _, b, rfl, .ty n, dp_ty h, kit_ty e, q⟩
theorem isi2 {v : V} {d : PyData} {n m : String} {b c : Bool} {p : Addr} {Q : VK} (h : Dp K H v d) (hp : H p = some (.tup [.ty n, .ty m])) (e : kitB (tyN d) n = some b) (e2 : kitB (tyN d) m = some c) (q : Q (.bl (b || c)) H) : rIsU K [v, .ref p] H Q := by
  refine .inr ⟨v, p, _, _, _, b || c, rfl, hp, .cons (.ty n) (.cons (.ty m) .nil), dp_ty h, ?_, q⟩
  refine kitAny_cons (kit_ty e) (fun hb => kitAny_cons (kit_ty e2) (fun hc => ?_) (fun hc => ?_)) (fun hb => by rw [hb]; rfl)
  · rw [hb, hc]; exact kitAny_nil
  · rw [hb, hc]; rfl
end
theorem kq {d : PyData} {n : String} {b : Bool} (s : String) (hs : tyN d = s) (h : kitB s n = some b) : kitB (tyN d) n = some b := by rw [hs]; exact h
/-! what the forms of things say, over plain data -/
def isWhole : PyData → Bool
  | .int _ => true
  | _ => false
def row : PyData → Option (List PyData)
  | .list xs => some xs
  | .tuple xs => some xs
  | _ => none
def between (lo hi : Int) : PyData → Bool
  | .int i => decide (lo ≤ i) && decide (i ≤ hi)
  | _ => false
def isText (signs : Str) (most : Int) : PyData → Bool
  | .str z => decide ((z.length : Int) ≤ most) && z.cps.toList.all fun c => decide (c ∈ signs.cps.toList)
  | _ => false
mutual
/-- texts in it are not long -/
def sm : PyData → Bool
  | .str z => decide (z.length ≤ 1000)
  | .list xs => smA xs
  | .tuple xs => smA xs
  | _ => true
def smA : List PyData → Bool
  | [] => true
  | x :: xs => sm x && smA xs
end
theorem sm_str {d : PyData} (h : sm d = true) : ∀ z, d = .str z → z.length ≤ 16777216 := fun z e => by
  subst e
  have := of_decide_eq_true (show decide (z.length ≤ 1000) = true from by simpa [sm] using h)
  omega
theorem smA_get : ∀ {xs : List PyData} {i : Nat} {d : PyData}, smA xs = true → xs[i]? = some d → sm d = true
  | [], _, _, _, e => by simp at e
  | x :: xs, 0, d, h, e => by
    simp at e; subst e
    simp only [smA, Bool.and_eq_true] at h
    exact h.1
  | x :: xs, i + 1, d, h, e => by
    simp only [smA, Bool.and_eq_true] at h
    exact smA_get (i := i) h.2 (by simpa using e)
theorem sm_row {d : PyData} {xs : List PyData} (h : sm d = true) (e : row d = some xs) : smA xs = true := by
  cases d with
  | list ys => cases e; simpa [sm] using h
  | tuple ys => cases e; simpa [sm] using h
  | _ => cases e
/-- a row stands as a list or as a tuple -/
theorem dp_row {K : PySem.W.Frag} {H : Hp} {v : V} {d : PyData} {xs : List PyData} (h : Dp K H v d) (e : row d = some xs) : ∃ p vs, v = .ref p ∧ (SqL K H p vs ∨ SqT K H p vs) ∧ DpAll K H vs xs := by
  cases h with
  | lst hs ha => cases e; exact ⟨_, _, rfl, .inl hs, ha⟩
  | tup hs ha => cases e; exact ⟨_, _, rfl, .inr hs, ha⟩
  | _ => cases e
theorem lenU {K : PySem.W.Frag} {H : Hp} {p : Addr} {vs : List V} {Q : VK} (h : SqL K H p vs ∨ SqT K H p vs) (q : Q (.int vs.length) H) : rLenU K [.ref p] H Q := h.elim (fun h => lenL h q) (fun h => lenT h q)
theorem gU {K : PySem.W.Frag} {σ : L2.St} {H : Hp} {n : Nat} {t : TGs} {p : Addr} {xs : List V} {R : L2.St → Hp → Prop} (s : SqL K H p xs ∨ SqT K H p xs) (e : xs.length = n) (h : t xs σ H R) : gTupU K n t (.ref p) σ H R := s.elim (fun s => gl s e h) (fun s => gt s e h)
theorem sqU_same {K : PySem.W.Frag} {H H' : Hp} {p : Addr} {xs : List V} (e : Same H H') (s : SqL K H p xs ∨ SqT K H p xs) : SqL K H' p xs ∨ SqT K H' p xs := s.elim (fun s => .inl (e.seq s)) (fun s => .inr (sameT e s))
mutual
/-- no list in it -/
def noL : PyData → Bool
  | .list _ => false
  | .tuple xs => noLA xs
  | _ => true
def noLA : List PyData → Bool
  | [] => true
  | x :: xs => noL x && noLA xs
end
section
variable {K : PySem.W.Frag} {H H' : Hp} {a : Addr} {us : List V} {o : HO}
theorem sqt_keep {b : Addr} {xs : List V} (h : H a = some (.lst us)) (k : Keep a H H') (s : SqT K H b xs) : SqT K H' b xs := by
  rcases s with (s | ⟨u, s⟩) | s
  · exact .inl (.inl (k _ _ (ne_of s h (by intro z; cases z)) s))
  · exact .inl (.inr ⟨u, k _ _ (ne_of s h (by intro z; cases z)) s⟩)
  · exact .inr s
mutual
theorem dp_keep (h : H a = some (.lst us)) (k : Keep a H H') : ∀ (d : PyData) (v : V), noL d = true → Dp K H v d → Dp K H' v d
  | .none, _, _, q => by cases q; exact .non
  | .bool b, _, _, q => by cases q; exact .bl b
  | .int i, _, _, q => by cases q; exact .int i
  | .str x, _, _, q => by cases q; exact .str x
  | .list ds, _, n, q => by simp [noL] at n
  | .tuple ds, _, n, q => by
    cases q with
    | tup hs ha => exact .tup (sqt_keep h k hs) (dps_keep h k ds _ (by simpa [noL] using n) ha)
  | .dict _, _, _, q => by cases q
theorem dps_keep (h : H a = some (.lst us)) (k : Keep a H H') : ∀ (ds : List PyData) (vs : List V), noLA ds = true → DpAll K H vs ds → DpAll K H' vs ds
  | [], _, _, q => by cases q; exact .nil
  | d :: ds, _, n, q => by
    simp only [noLA, Bool.and_eq_true] at n
    cases q with
    | cons h1 h2 => exact .cons (dp_keep h k d _ n.1 h1) (dps_keep h k ds _ n.2 h2)
end
theorem dp_upd (h : H a = some (.lst us)) (d : PyData) (v : V) (n : noL d = true) (q : Dp K H v d) : Dp K (upd H a o) v d := dp_keep h (Keep.upd a H o) d v n q
theorem dps_upd (h : H a = some (.lst us)) (ds : List PyData) (vs : List V) (n : noLA ds = true) (q : DpAll K H vs ds) : DpAll K (upd H a o) vs ds := dps_keep h (Keep.upd a H o) ds vs n q
end
/-- a triple of a state, a sign or nothing, a state -/
abbrev tri (p : Int) (x : Str) (q : Int) : PyData := .tuple [.int p, .str x, .int q]
end Wp
set_option Elab.async false
set_option linter.all false
set_option maxRecDepth 100000
namespace Wp
open PySem PySem.Spec PyProof.Rows L2
/-- an own error class with one field, as its raiser needs it -/
structure ExT (K : PySem.W.Frag) (mg : Str → Option Value) (x : Str) (C fI : Addr) (fld : Str) : Prop where
  O : OexC K C
  g : mg x = some (.ref C)
  iC : PySem.W.findIn K (.ref C) "__init__" = some (some (.ref fI))
  tI : PySem.W.typeIn K (.ref fI) = some (.type "function")
  no : PySem.W.findIn K (.ref C) fld = some none
def spInit (K : PySem.W.Frag) (fld : Str) : Sp := fun vs H Q _ => ∃ (a C : Addr) (y : V), vs = [.ref a, y] ∧ OexC K C ∧ PySem.W.findIn K (.ref C) fld = some none ∧ H a = some (exo a C none) ∧
  ∀ dx, H dx = none → dx ≠ a → Q .non (upd (upd H dx (exd dx [(fld, y)])) a (exo a C (some dx)))
def MkI (C : Addr) (sp : Sp) (dvs : List V) (Q : XK) (vs : List V) (H1 : Hp) : Prop := vs.length ≤ 1000 ∧ ∀ a, H1 a = none → sp (.ref a :: (vs ++ dvs)) (upd H1 a (exo a C none))
  (fun v H2 => v = .non ∧ ∃ (d : Addr) (fs : List (Str × V)), H2 a = some (exo a C (some d)) ∧ H2 d = some (exd d fs) ∧ H1 d = none ∧ Q (.ref C) (some d) (upd (del H2 a) d (.xd fs))) (fun _ _ _ => False)
theorem mko {C : Addr} {sp : Sp} {dvs : List V} {ta : TA} {σ : L2.St} {H : Hp} {Q : XK} (h : ta σ H fun vs H1 => MkI C sp dvs Q vs H1) : tMkO C sp dvs ta σ H Q := h
theorem mki {K : PySem.W.Frag} {mg : Str → Option Value} {x : Str} {C fI : Addr} {fld : Str} {Q : XK} {y : V} {H1 : Hp} (T : ExT K mg x C fI fld)
    (h : ∀ d H', H1 d = none → Same H1 H' → H' d = some (.xd [(fld, y)]) → Q (.ref C) (some d) H') : MkI C (spInit K fld) [] Q [y] H1 := by
  refine ⟨(by decide : 1 ≤ 1000), fun a ha => ⟨a, C, y, rfl, T.O, T.no, upd_same, fun dx hdx hne => ⟨rfl, dx, [(fld, y)], upd_same, ?_, ?_, ?_⟩⟩⟩
  · rw [upd_ne hne, upd_same]
  · rw [upd_ne hne] at hdx
    exact hdx
  · refine h dx _ (by rw [upd_ne hne] at hdx; exact hdx) (fun b o e => ?_) upd_same
    have hba : b ≠ a := ne_of_none e ha
    have hbd : b ≠ dx := ne_of_none (show (upd H1 a (exo a C none)) b = some o by rw [upd_ne hba]; exact e) hdx
    rw [upd_ne hbd, del_ne hba, upd_ne hba, upd_ne hbd, upd_ne hba]
    exact e
end Wp
set_option Elab.async false
set_option linter.all false
set_option maxRecDepth 100000
set_option maxHeartbeats 1000000
/-! enumerate over a tuple: its making, its turns, its walk -/
namespace Wp
open PySem PySem.Spec PyProof.Rows L2
/-- what stands behind enumerate(v): the iterator over v, then the enumerate object -/
abbrev enHeap (h : Heap) (o : Obj) : Heap := (h.push o).push { cls := .type "enumerate", data := .fields #[.none, .bool false, .ref h.objs.size, rawInt 0, .none, .none] }
theorem en_new {v : Value} {o : Obj} {G : Heap → Prop} (B : Begins v o G) :
    Meets (Builtin.«enumerate.__new__» ⟨[.type "enumerate", v], []⟩) (fun _ R s => G s.heap ∧ R (.ok (.ret (.ref (s.heap.push o).objs.size))) { s with heap := enHeap s.heap o }) := by
  refine .of_wp fun prog w A R s h => ?_
  obtain ⟨hp, g, d, tk, os⟩ := s; obtain ⟨hg, h⟩ := h; have hsub := sub_enumerate
  have qi : ∀ {A' : Around} {E : Value → Shared → Prop} {Q : Value → Shared → Prop}, Q (.ref hp.objs.size) ⟨hp.push o, g, d, tk, os⟩ → wpAny (model prog w) A' (pyIter v) Q E ⟨hp, g, d, tk, os⟩ := fun {A' E Q} q => B.iter prog w A' E ⟨hp, g, d, tk, os⟩ Q hg q
  wp_walk using qi; refine wpAny_stack_any fun st => wpAny_pure ?_
  split
  · rename_i c _ _ _ _ _
    cases (c == Value.type "enumerate") <;> (wp_walk using qi; exact ⟨_, rfl, h⟩)
  · wp_walk using qi; exact ⟨_, rfl, h⟩
section
variable {prog : Program} {w : World} {A : Around} {E : Value → Shared → Prop} {s : Shared}
theorem en_call {v : Value} {o : Obj} {G : Heap → Prop} {Q : Value → Shared → Prop} (B : Begins v o G) (hg : G s.heap)
    (h : ∀ h', IsEnum h' (s.heap.objs.size + 1) s.heap.objs.size 0 .none → h'.get? s.heap.objs.size = some o → (∀ b u, s.heap.get? b = some u → h'.get? b = some u) → Q (.ref (s.heap.objs.size + 1)) { s with heap := h' }) :
    wpAny (model prog w) A (PySem.call (.type "enumerate") [v]) Q E s := by
  have hz : (s.heap.push o).objs.size = s.heap.objs.size + 1 := Heap.size_push ..
  have he : IsEnum (enHeap s.heap o) (s.heap.objs.size + 1) s.heap.objs.size 0 .none := by
    have q := Heap.get?_push_size (s.heap.push o) (o := { cls := .type "enumerate", data := .fields #[.none, .bool false, .ref s.heap.objs.size, rawInt 0, .none, .none] }) rfl
    rw [hz] at q; exact q
  refine callType_new F.called_enumerate (by decide) (F.typeCall_enumerate_1 v) (F.newCall_enumerate_1 v) (fun obj => F.args_object_init_2 obj v) F.entry_enumerate_new (en_new B) ⟨hg, ?_⟩
  rw [hz]
  exact ⟨⟨_, he, rfl⟩, h _ he (Heap.get?_push_of_some _ (Heap.get?_push_size _ B.free)) fun b u x => Heap.get?_push_of_some _ (Heap.get?_push_of_some _ x)⟩
end
def IteT (K : PySem.W.Frag) (a : Addr) : It :=
  ⟨fun i H => ∃ (xs : List V) (x : V), SqT K H a xs ∧ xs[i]? = some x,
   fun i H v H' => ∃ T x, v = .ref T ∧ H T = none ∧ H' = upd H T (.tup [.int (i : Nat), x]) ∧ ∀ xs, SqT K H a xs → xs[i]? = some x,
   fun i H => ∃ xs : List V, SqT K H a xs ∧ xs.length ≤ i⟩
theorem turn_enT {P : Program} {w : World} {K : PySem.W.Frag} {elts : List Expr} {kk : Nat} {tpos : Pos} (a e it : Addr) :
    Turn P w K (.Tuple elts kk tpos) (IteT K a) [e, it] e (fun i h => (∃ old, IsEnum h e it ((i : Nat) : Int) old) ∧ h.IsTupleIter it a i ∧ e ≠ it) where
  mem := List.mem_cons_self
  obj := fun i h st b hb => by
    obtain ⟨⟨old, he⟩, ⟨o, ho, _, hd⟩, _⟩ := st
    rcases List.mem_cons.mp hb with z | z
    · rw [z]; exact ⟨_, he, fun v q => nomatch q⟩
    · rw [List.mem_singleton.mp z]; exact ⟨o, ho, fun v q => by rw [hd] at q; cases q⟩
  keep := fun i h h' st k => ⟨⟨_, k e (by simp) _ st.1.choose_spec⟩, st.2.1.at fun o q => k it (by simp) o q, st.2.2⟩
  item := by
    rintro X rfl rfl rfl hc i pins s σ H E I hf ⟨⟨old, he⟩, hit, hne⟩ ⟨xs, x, hq, hx⟩
    obtain ⟨its, rv, p, hz⟩ := I.tuple hq
    obtain ⟨u, hu, ru⟩ := rv.get hx
    have hel : e < s.heap.objs.size := Heap.lt_size he
    have hil : it < s.heap.objs.size := hit.elim fun o q => Heap.lt_size q.1
    have hae : a ≠ e := fun z => by obtain ⟨o, ho, hcl, _⟩ := p; rw [z, he] at ho; cases ho; exact absurd (Value.type.inj hcl) (by decide)
    have hai : a ≠ it := fun z => by
      obtain ⟨o, ho, hcl, _⟩ := p; obtain ⟨o2, ho2, hcl2, _⟩ := hit
      rw [z, ho2] at ho; cases ho; rw [hcl] at hcl2; exact absurd (Value.type.inj hcl2) (by decide)
    have Dr : Draws X.prog X.w X.A.in1 it [it, a] its.toArray.size (fun i v => its.toArray[i]? = some v) (fun i h => h.IsTupleIter it a i ∧ h.IsTuple a its.toArray) := Draws.tuple (A := X.A.in1) (show X.A.in1.handled = none from I.ok.hd hc) it a hai its.toArray
    have hlt : i < its.toArray.size := by
      have := (List.getElem?_eq_some_iff.mp hu).1
      rw [List.size_toArray]; exact this
    refine wpAny_pyNext_enum_itemD Dr he ⟨hit, p⟩ hlt hne (by simp [hne, Ne.symm hae]) fun x' h' tk hp ho hst hT hsz hk => ?_
    have hxx : x' = u := Option.some.inj (hp.symm.trans (by simpa using hu))
    subst hxx
    refine ⟨_, rfl, wpAny_letOwnedTupleGo_enum (s := { s with heap := h', toks := tk + 1 }) ho fun h'' he' sb => ?_⟩
    have hT2 : h''.get? s.heap.objs.size = some { cls := .type "tuple", data := .seq #[.int i tk, x'] } := (sb.2 _ (Nat.ne_of_gt hel)).trans hT
    have new : ObjOk X.prog X.w (upd H s.heap.objs.size (.tup [.int (i : Nat), x])) h'' s.heap.objs.size (.tup [.int (i : Nat), x]) := ⟨(by decide : 2 ≤ sizeLine), [.int i tk, x'], .cons ⟨_, rfl⟩ (.cons ru .nil), ⟨_, hT2, rfl, _, rfl⟩⟩
    have I1 : Inv X pins σ (upd H s.heap.objs.size (.tup [.int (i : Nat), x])) { s with heap := h'', toks := tk + 1 } := by
      refine I.turnedNew (ch := [e, it]) (fun b ob hb q => ?_) hf (Nat.le_refl _) new
      have h1 : b ≠ e := fun z => hb (by simp [z])
      have h2 : b ≠ it := fun z => hb (by simp [z])
      exact (sb.2 b h1).trans (hk b ob h1 h2 q)
    refine ⟨.ref s.heap.objs.size, _, I1, rfl, ⟨_, x, rfl, I.hok.fresh (Nat.le_refl _), rfl, fun ys hy => by rw [I.tuple_inj hy hq]; exact hx⟩, ⟨⟨x', ?_⟩, hst.1.at fun o q => (sb.2 it (Ne.symm hne)).trans q, hne⟩, fun b hb => ?_⟩
    · rw [show ((i + 1 : Nat) : Int) = (i : Int) + 1 by omega]; exact he'
    · have hb' : b < s.heap.objs.size := by
        rcases List.mem_cons.mp hb with z | z
        · rw [z]; exact hel
        · rw [List.mem_singleton.mp z]; exact hil
      rw [upd_ne (Nat.ne_of_lt hb')]; exact (hf b hb).1
  done := by
    rintro X rfl rfl rfl hc i pins s σ H E I hf ⟨⟨old, he⟩, hit, hne⟩ ⟨xs, hq, hx⟩
    obtain ⟨its, rv, p, hz⟩ := I.tuple hq
    obtain ⟨f0, f1, f2, f3, f4, f5⟩ := hf it (by simp)
    have hl := rv.length
    have hT : s.TypeIs (.ref e) "enumerate" := ⟨_, he, rfl⟩
    unfold pyNext
    refine wpAny_bind (wpAny_attempt (wpAny_callSpecial?_slot (name := Str.ofString "__next__") hT F.slot_enumerate_next (wpAny_call_entry F.slot_enumerate_next hT F.entry_enumerate_next ?_ (F.args_enumerate_next_1 _))))
    refine (show wpAny _ _ (field (.ref e) 2 >>= _) _ _ _ from wpAny_bind (wpAny_field he rfl (x := .ref it) rfl ?_))
    refine wpAny_bind (wpAny_nextOf_tuple_end (I.ok.hd hc) hit (show s.heap.IsTuple a its.toArray from p) (by simp; omega) fun h' x' eb hx' => ?_)
    obtain ⟨o, ho, hcl⟩ := hx'
    exact wpAny_bind (wpAny_isInstance (T := "StopIteration") (b := true) ⟨o, ho, hcl⟩ isSubtype_stop (wpAny_pure ⟨rfl, I.turned (t' := s.toks) (fun b o hb q => eb b o hb q) f0 f1 f3 f4 f5⟩))
  self := fun A i s Q E st h => wpAny_pyIter_enum st.1.choose_spec h
def iEnumU (K : PySem.W.Frag) (ta : TA) : TI := fun σ H R => ta σ H fun vs H1 => ∃ a xs, vs = [.ref a] ∧ ((SqL K H1 a xs ∧ R (Ite K a) H1) ∨ (SqT K H1 a xs ∧ R (IteT K a) H1))
theorem wi_enum {X : Cx} {e : Expr} {ta : TA} {p pos tpos : Pos} {elts : List Expr} {kk : Nat} {K : PySem.W.Frag} (hg : Gl X "enumerate") (hm : X.mg "enumerate" = none) (ha : PA X [e] ta) (hs : starEach [e] X.env = [(false, eval e X.env)] := by rfl) (hK : X.K = K := by rfl) :
    PI X (.Tuple elts kk tpos) (.Call (.Name "enumerate" p) [e] [] pos) (iEnumU K ta) := by
  subst hK
  refine ⟨fun pins s σ H R I h => ?_⟩
  refine Call_ (ld_blt I hg hm boot_enumerate (PyProof.Rows.callWith_type1 (thn (ha.run pos pins s σ H _ I h) fun us s1 ⟨vs, H1, I1, r1, a, xs, ex, q⟩ => ?_) hs rfl))
  subst ex
  cases r1 with
  | cons r rr =>
    cases rr; cases r
    have new : ∀ {h' : Heap}, (∀ b o, s1.heap.get? b = some o → h'.get? b = some o) → ∀ b ∈ [s1.heap.objs.size + 1, s1.heap.objs.size], FpOk X pins H1 b := fun {h'} _ b hb => by
      have hle : s1.heap.objs.size ≤ b := by
        rcases List.mem_cons.mp hb with z | z
        · omega
        · have := List.mem_singleton.mp z; omega
      exact I1.fpOk hle (I1.hok.fresh hle)
    rcases q with ⟨hq, q⟩ | ⟨hq, q⟩
    · obtain ⟨its, rv, p', hz⟩ := I1.list hq
      refine call_enumerate_list p'.isList fun h' he hit hsz hk => wpAny_pyIter_enum he ?_
      exact ⟨s1.heap.objs.size + 1, [s1.heap.objs.size + 1, s1.heap.objs.size], _, _, H1, rfl, I1.kept (t' := s1.toks) hk, turn_enum a (s1.heap.objs.size + 1) s1.heap.objs.size, ⟨⟨.none, he⟩, hit, Nat.succ_ne_self _⟩, new hk, q⟩
    · obtain ⟨its, rv, p', hz⟩ := I1.tuple hq
      refine en_call (begins_tuple a its.toArray) p' fun h' he ho hk => wpAny_pyIter_enum he ?_
      exact ⟨s1.heap.objs.size + 1, [s1.heap.objs.size + 1, s1.heap.objs.size], _, _, H1, rfl, I1.kept (t' := s1.toks) hk, turn_enT a (s1.heap.objs.size + 1) s1.heap.objs.size, ⟨⟨.none, he⟩, ⟨_, ho, rfl, rfl⟩, Nat.succ_ne_self _⟩, new hk, q⟩
theorem walk_enT {K : PySem.W.Frag} {a : Addr} {xs : List V} : L2.Walk (IteT K a) xs.length (fun H => SqT K H a xs) (YPair (fun i => some (.int (i : Nat))) (fun i => xs[i]?)) :=
  ⟨fun i _ hi q => ⟨xs, xs[i], q, by simp [hi]⟩, fun _ q => ⟨xs, q, Nat.le_refl _⟩, fun i H v H' _ q ⟨T, x, h1, h2, h3, h4⟩ => ⟨T, .int (i : Nat), x, h1, h2, h3, rfl, h4 xs q⟩⟩
/-- the loop over enumerate of a row, list or tuple -/
theorem enumU {K : PySem.W.Frag} {p : Addr} {xs : List V} {σ : L2.St} {H0 H : Hp} {D : Ends} {g : TG} {tb : TS} (s : SqL K H0 p xs ∨ SqT K H0 p xs) (sm : Same H0 H) (Pv : Nat → L2.St → Hp → Prop) (h0 : Pv 0 σ H) (hG : ∀ i σ1 H1, Pv i σ1 H1 → Same H0 H1)
    (hs : ∀ i x σ1 H1 T, xs[i]? = some x → Pv i σ1 H1 → H1 T = none → g (.ref T) σ1 (upd H1 T (.tup [.int (i : Nat), x])) fun σ2 H2 => tb { D with nx := Pv (i + 1), ct := Pv (i + 1), bk := D.nx } σ2 H2)
    (hd : ∀ σ1 H1, Pv xs.length σ1 H1 → D.nx σ1 H1) : (SqL K H p xs ∧ FORg (Ite K p) g tb D σ H) ∨ (SqT K H p xs ∧ FORg (IteT K p) g tb D σ H) := by
  have step : ∀ i v σ1 H1 H', i < xs.length → Pv i σ1 H1 → YPair (fun i => some (.int (i : Nat))) (fun i => xs[i]?) i H1 v H' → g v σ1 H' fun σ2 H2 => tb { D with nx := Pv (i + 1), ct := Pv (i + 1), bk := D.nx } σ2 H2 := by
    rintro i v σ1 H1 H' hi hp ⟨T, x, y, rfl, hT, rfl, hx, hy⟩
    cases hx
    exact hs i y σ1 H1 T hy hp hT
  rcases s with s | s
  · exact .inl ⟨sm.seq s, forIt walk_enum Pv h0 (fun i σ1 H1 _ hp => (hG i σ1 H1 hp).seq s) step hd⟩
  · exact .inr ⟨sameT sm s, forIt walk_enT Pv h0 (fun i σ1 H1 _ hp => sameT (hG i σ1 H1 hp) s) step hd⟩
theorem ienum {K : PySem.W.Frag} {ta : TA} {σ : L2.St} {H : Hp} {R : It → Hp → Prop} (h : ta σ H fun vs H1 => ∃ a xs, vs = [.ref a] ∧ ((SqL K H1 a xs ∧ R (Ite K a) H1) ∨ (SqT K H1 a xs ∧ R (IteT K a) H1))) : iEnumU K ta σ H R := h
end Wp
set_option Elab.async false
set_option linter.all false
set_option maxRecDepth 100000
/-! the law's own def at the place where it is called: there nothing is being shown (guards), so repr of data may be asked -/
namespace Wp
open PySem PySem.Spec PyProof.Rows L2
structure FnTop (P : Program) (w : World) (K : PySem.W.Frag) (mg : Str → Option Value) (base : Heap) (CX : CXT) (f : Addr) (fd : FuncData) (ps : List Str) (sp : Sp) : Prop where
  run : ∀ (s : Shared) (H : Hp) (us : List Value) (vs : List V) (Q : VK) (E : XK), Env0 P w K mg base callerA [] s H → BindsTo s fd ⟨us, []⟩ (ps.zip us) → Vals vs us → sp vs H Q E →
    codeAny (model P w) callerA (.call (.ref f) ⟨us, []⟩) (CR CX [] P w H s Q E) s
theorem top_of {P : Program} {w : World} {K : PySem.W.Frag} {mg : Str → Option Value} {base : Heap} {CX : CXT} {x qual : Str} {st : Stmt} {f : Addr} {fd : FuncData} {N ps : List Str} {k : Nat} {sp : Sp} (F : Fun K x qual st f fd) (S : FnScope N ps (defScope st))
    (len : ∀ vs H Q E, sp vs H Q E → vs.length = ps.length) (hroom : Room (k + 1) callerA)
    (hbody : ∀ (cdv : Value) (s : Shared) (H : Hp) (vs : List V) (Q : VK) (E : XK), Room k (callerA.deeper (envOfC qual (defScope st) s.heap.objs.size f cdv)) → sp vs H Q E →
      ∃ t, PSs (cxOf CX P w K mg base N qual (defScope st) f cdv callerA [] s H E) (defBody st) t ∧ t { nx := fun _ H' => Q .non H', rt := Q } (start N vs) H) : FnTop P w K mg base CX f fd ps sp := by
  obtain ⟨oc, od, kV, doc, pm, an, cdv, ct, osl, rfl, lk, hcd⟩ := F.ex
  refine ⟨fun s H us vs Q E e0 hb r hsp => ?_⟩
  have inHeap : K.In s.heap := e0.mod.kin.keeps fun b o e => (e0.bs b o e).1
  have nolim : s.heap.NoLimit := e0.mod.nolimit.keeps fun b o e => (e0.bs b o e).1
  have kinds : ∀ y ∈ ps.zip us, (defScope st).names.lookup y.1 = some .local ∨ ((defScope st).names.lookup y.1 = some .cell ∧ ((cellsFrom (s.heap.objs.size + 1) (defScope st).names []).lookup y.1).isSome = true) := fun ⟨n, v⟩ hy => (S.par n (List.of_mem_zip hy).1).imp id fun q => ⟨q, PySem.W.cellsFrom_some _ _ _ (.inl q)⟩
  refine codeAny_call_function hroom.depth (inHeap _ _ lk) rfl S.co S.gen rfl (PySem.W.codeRec_of inHeap hcd) (hb _ _ _ _ (wpAny_newFunctionEnv_cells S.kind kinds fun env he s1 q => ?_))
  subst he
  refine ⟨nolim.keeps q.toInCall.keep, codeAny_func ?_⟩
  obtain ⟨t, ht, hq⟩ := hbody cdv s H vs Q E (hroom.deeper _) hsp
  have I0 := inv_start (CX := CX) (E := E) S hroom.hd e0 (len _ _ _ _ hsp) r q
  refine wpAny_mono (ht.run [] s1 (start N vs) H _ I0 hq) (fun fl s' hs => ?_) fun e s' hs => hs
  cases fl with
  | ret u => obtain ⟨v, σ', H', J, rv, z⟩ := hs; exact ⟨v, H', J.os, J.bare, J.base, J.hok, rv, z⟩
  | next => obtain ⟨σ', H', J, z⟩ := hs; exact ⟨V.non, H', J.os, J.bare, J.base, J.hok, rfl, z⟩
  | brk => obtain ⟨_, _, _, z⟩ := hs; exact z.elim
  | cont => obtain ⟨_, _, _, z⟩ := hs; exact z.elim
theorem call_top {P : Program} {w : World} {K : PySem.W.Frag} {mg mb : Str → Option Value} {CX : CXT} {fa a : Addr} {fd : FuncData} {x : Str} {sp : Sp} {s : Shared} {vs : List Value} {ns : List Int} (KX : K.In s.heap) (hns : s.heap.Ns mainGlobals mg) (hb : s.heap.Ns builtinsNs mb)
    (hbb : ∀ x : Str, x ≠ "__name__" → mb x = bootBuiltins x) (hlim : s.heap.NoLimit) (hg : s.gens = #[]) (ha : s.heap.get? a = some { cls := .type "list", data := .seq vs.toArray }) (hi : IntsAre vs ns) (hl : ns.length ≤ sizeLine)
    (F : ∀ base : Heap, K.In base → base.Ns mainGlobals mg → FnTop P w K mg base CX fa fd [x] sp) (hbind : ∀ (s : Shared) (u : Value), BindsTo s fd ⟨[u], []⟩ [(x, u)])
    (hsp : ∀ H : Hp, Only H → SqL K H a (ns.map V.int) → sp [.ref a] H (fun v _ => v = .bl true) fun _ _ _ => False) (hCX : ∀ H e s', CX [] H s (fun _ _ _ => False) e s' → False) :
    codeAny (model P w) callerA (.call (.ref fa) ⟨[.ref a], []⟩) (fun r s' => r = .ok (.ret (.bool true)) ∧ OldK s.heap s'.heap ∧ s'.os = s.os ∧ AllBare s'.gens) s := by
  have rv := vals_ints hi; have lenV := hi.length
  have core : ∀ H : Hp, Only H → SqL K H a (ns.map V.int) → HOk P w H s.heap → (∀ b, H b ≠ none → b = a) → (H a ≠ none → K.lookup a = none) →
      codeAny (model P w) callerA (.call (.ref fa) ⟨[.ref a], []⟩) (fun r s' => r = .ok (.ret (.bool true)) ∧ OldK s.heap s'.heap ∧ s'.os = s.os ∧ AllBare s'.gens) s := by
    intro H hO hS hok hA hK
    have free : ∀ {b : Addr}, b ≠ a → H b = none := fun {b} hb => by
      cases q : H b with
      | none => rfl
      | some u => exact absurd (hA b (by rw [q]; simp)) hb
    have nsK : ∀ {b : Addr} {m : Str → Option Value}, s.heap.Ns b m → (hidT s.heap H).Ns b m := fun {b m} ⟨o, es, ep, e, d, z⟩ => ⟨o, es, ep, hidT_get e (free fun hba => by rw [hba, ha] at e; cases e; have d' : Data.seq vs.toArray _ = Data.dict es ep := d; cases d'), d, z⟩
    have hKb : K.In (hidT s.heap H) := fun b o e => hidT_get (KX b o e) (by
      cases q : H b with
      | none => rfl
      | some u => have hba := hA b (by rw [q]; simp); subst hba; rw [hK (by rw [q]; simp)] at e; cases e)
    have hM : Mod K mg (hidT s.heap H) := ⟨hKb, nsK hns, ⟨mb, nsK hb, hbb⟩, hlim.elim fun mc z => ⟨mc, nsK z.1, z.2⟩⟩
    have e0 : Env0 P w K mg (hidT s.heap H) callerA [] s H := { frames := rfl, mod := hM, bs := fun b o e => of_hidT e, bsz := Nat.le_of_eq (hidT_size _ _), funs := trivial, frf := fun b z => absurd (show b ∈ ([] : List Addr) from z) (by simp), hok := hok, bare := .of_eq hg }
    refine codeAny_mono ((F _ hKb (nsK hns)).run s H [.ref a] [.ref a] _ _ e0 (hbind s (.ref a)) (.cons rfl .nil) (hsp H hO hS)) fun r s' h => ?_
    match r, h with
    | .error e, h => exact (hCX H e s' h).elim
    | .ok (.ret u), ⟨v, H', hos, hbare, hun, hok', hrv, hq⟩ =>
      obtain rfl : v = .bl true := hq
      obtain rfl : u = Value.bool true := hrv
      refine ⟨rfl, OldK.of_keep fun b o e => ?_, hos, hbare⟩
      rcases hO b with z | ⟨ob, xs, z⟩
      · exact hun.keep b o e z (fun y => absurd (show b ∈ ([] : List Addr) from y) (by simp)) (by simp)
      · have e1 := (hok b _ z).1; have e2 := (hok' b _ (hun.frzs b ob _ z)).1
        rw [e] at e1; cases e1; exact e2
  cases hk : K.lookup a with
  | some o =>
    have e := KX a o hk
    rw [ha] at e; cases e
    exact core (fun _ => none) (fun _ => .inl rfl) (.inr ⟨_, vs.toArray, _, hk, rfl, rfl, rfl, by rw [List.size_toArray, lenV]; exact hl, by simpa using rv⟩) (fun b u z => nomatch (show (none : Option HO) = some u from z)) (fun b z => absurd rfl z) fun z => absurd rfl z
  | none =>
    refine core (fun b => if b = a then some (.frz { cls := .type "list", data := .seq vs.toArray } (.lst (ns.map V.int))) else none) (fun b => ?_) (.inl (.inr ⟨_, if_pos rfl⟩)) (fun b u z => ?_) (fun b z => ?_) fun _ => hk
    all_goals by_cases hb : b = a
    · exact .inr ⟨_, _, if_pos hb⟩
    · exact .inl (if_neg hb)
    · have z' := (if_pos hb).symm.trans z; cases z'; subst hb
      exact ⟨ha, by rw [List.length_map]; exact hl, vs, _, rv, ha⟩
    · cases (if_neg hb).symm.trans z
    · exact hb
    · exact absurd (if_neg hb) z
theorem walk_top {l : PySem.W.OpenLaw} {n : Nat} {q : Program} {loose : List Str} {XP : (Str → Option Value) → Heap → Prop} {YP : World → Heap → Prop} {d : DefRec} {K : Params → PySem.W.Frag} {CX : World → CXT} {sp : World → Sp} {x : Str} (hn : l.most = some n) (hn2 : n ≤ sizeLine) (hdf : d.params.defaults = [])
    (hY : ∀ (w : World) (h : Heap), YP w h → (K w.params).In h)
    (F : ∀ (w : World) (mg : Str → Option Value) (fa : Addr) (h : Heap), (K w.params).In h → h.Ns mainGlobals mg → mg d.name = some (.ref fa) → ∃ fd : FuncData, (∀ (s : Shared) (u : Value), BindsTo s fd ⟨[u], []⟩ [(x, u)]) ∧ ∀ base : Heap, (K w.params).In base → base.Ns mainGlobals mg → FnTop l.prog w (K w.params) mg base (CX w) fa fd [x] (sp w))
    (hsp : ∀ (w : World) (H : Hp) (a : Addr) (ns : List Int), ns.length ≤ n → (∀ z ∈ ns, Builtin.Int.intBits z ≤ 1048576) → Only H → SqL (K w.params) H a (ns.map V.int) → sp w [.ref a] H (fun v _ => v = .bl true) fun _ _ _ => False)
    (hCX : ∀ (w : World) (H : Hp) (s : Shared) (e : Value) (s' : Shared), CX w [] H s (fun _ _ _ => False) e s' → False) : PySem.W.WalkO q loose XP YP l.row.toRowW d [] (fun f vs => PySem.call f vs) :=
  Att.attach_callB hn hdf fun w s₀ s₁ mg mb fa o pm cd doc a vs ns G Y ho hd hcd hmg hobj hints hlen hbits hg => by
    have inK := hY w _ Y
    obtain ⟨fd, hb, hF⟩ := F w mg fa _ inK G.T.g hmg
    exact call_top inK G.T.g G.T.b G.T.builtins G.T.nolimit hg hobj hints (Nat.le_trans hlen hn2) hF hb (fun H hO hS => hsp w H a ns hlen hbits hO hS) fun H e s' => hCX w H s₁ e s'
theorem guards_top {env : Env} : (callerA.deeper env).guards = some [] := by first | rfl | decide
end Wp
set_option Elab.async false
set_option linter.all false
set_option maxRecDepth 100000
namespace Wp
open PySem PySem.Spec PyProof.Rows L2
/-- what the class D must say, so that isinstance asks its instances rightly -/
def rIsEd (K : PySem.W.Frag) (D a : Addr) (cls : Value) (d : Option Addr) : List V → Hp → VK → Prop := fun xs H Q => ∃ (c : V) (cv : Value) (b : Bool), xs = [.ref a, c] ∧ cls = .ref D ∧ (∀ u, RelV c u → u = cv) ∧ PySem.W.kitOne K (.ref D) cv = some b ∧ (∃ dd fs, d = some dd ∧ H dd = some (.xd fs)) ∧ Q (.bl b) H
theorem call_isEd {X : Cx} {a D : Addr} {cls : Value} {d : Option Addr} {oe : Obj} {pn : List (Addr × Obj)} {K : PySem.W.Frag} (C : ExcC K D) (hz : Zc cls d oe) (hf : ∃ vs, oe.data = .fields vs) (hK : X.K = K := by rfl) : CallR (X.suite a ((a, oe) :: pn)) (.builtin "isinstance") (rIsEd K D a cls d) := by
  subst hK
  rintro pins s σ H xs us Q I r ⟨c, cv, b, rfl, rfl, hcv, e, ⟨dd, fs, rfl, ed⟩, q⟩
  cases r with
  | cons rx rr =>
  cases rr with
  | cons rt rr =>
  cases rr; cases rx
  have ec := hcv _ rt
  subst ec
  have hget := (I.pin (a, oe) (List.mem_append.mpr (.inl List.mem_cons_self))).1
  obtain ⟨vs, hv⟩ := hf
  have hx : ObjOk X.prog X.w H s.heap dd (.xd fs) := I.hok dd _ ed
  obtain ⟨mA, hns, hr⟩ := hx
  obtain ⟨od, ho, hl⟩ := lookIn_ns hns
  have J : PySem.W.InstAt s.heap a oe D (some od) := ⟨hget, hz.1, by unfold PySem.W.notCls; rw [hv] <;> rfl, by rw [hz.2]; exact ho⟩
  have hcl : (PySem.W.clsIn X.K D).isSome = true := by
    have hh : (PySem.W.clsIn X.K D).any (·.hasDict) = true := C.hd
    cases hq : PySem.W.clsIn X.K D with
    | none => rw [hq] at hh; cases hh
    | some cd => rfl
  exact PySem.W.kia_one (PySem.W.kitx_exc hcl C.hg C.hk C.hs C.ha C.hn C.ht C.hm) I.kIn J e (fun z => nomatch z) fun tk => ⟨.bl b, H, I.kept (t' := tk) fun _ _ z => z, rfl, q⟩
/-- repr of rows of data -/
def rRepr (K : PySem.W.Frag) : List V → Hp → VK → Prop := fun xs H Q => ∃ a d, xs = [.ref a] ∧ Dp K H (.ref a) d ∧ d.showable = true ∧ d.hasDict = false ∧ d.depth ≤ 60 ∧ d.shown.length ≤ sizeLine ∧ Q (.str d.shown) H
theorem wc_repr {X : Cx} {K : PySem.W.Frag} (hg : X.A.guards = some []) (hu : X.A.units + 65 < cLine) (hK : X.K = K := by rfl) : CallR X (.builtin "repr") (rRepr K) := by
  subst hK
  rintro pins s σ H xs us Q I r ⟨a, d, rfl, hd, hs, hnd, hdp, hsz, q⟩
  rw [Vals.ref1 r]
  obtain ⟨as, rd⟩ := Dp.reads I d _ _ hd (show RelV (.ref a) (.ref a) from rfl)
  exact repr_of_reads' rd hs (fun z => by rw [hnd] at z; cases z) hg (by omega) (fun _ _ z => z) (fun h' u tk hk => ⟨.str d.shown, H, I.kept (t' := tk) hk, ⟨_, rfl⟩, q⟩) hsz
/-- sorted of a list of data -/
def rSortD (K : PySem.W.Frag) : List V → Hp → VK → Prop := fun xs H Q => ∃ a vs ds, xs = [.ref a] ∧ SqL K H a vs ∧ DpAll K H vs ds ∧ PySem.W.AllAlike ds ∧ PySem.W.Sortable ds ∧ (∀ d ∈ ds, d.depth ≤ 60) ∧
  ∀ (zs : List (V × PyData)) (p : Addr), zs.Perm (vs.zip ds) → zs = (vs.zip ds).mergeSort (PySem.W.dataLe false Prod.snd) → H p = none → Q (.ref p) (upd H p (.lst (zs.map (·.1))))
theorem wc_sorted {X : Cx} {K : PySem.W.Frag} (hu : X.A.units + 65 < cLine) (hK : X.K = K := by rfl) : CallR X (.builtin "sorted") (rSortD K) := by
  subst hK
  rintro pins s σ H xs us Q I r ⟨a, vs, ds, rfl, hs, hal, hall, hk, hdp, q⟩
  obtain ⟨its, rv, hl, hz⟩ := I.list hs
  rw [Vals.ref1 r]
  have hlen := dps_len hal
  have hsnd : (vs.zip ds).map Prod.snd = ds := List.map_snd_zip (by omega)
  have e1 : ∀ {vs : List V} {its : List Value} {ds : List PyData}, Vals vs its → vs.length = ds.length → PySem.W.EachIs (fun u (b : V × PyData) => RelV b.1 u) its (vs.zip ds) := by
    intro vs its ds rv
    induction rv generalizing ds with
    | nil => intro h; exact .nil
    | cons r _ ih =>
      intro h
      cases ds with
      | nil => cases h
      | cons d ds => exact .cons r (ih (by simpa using h))
  have e2 : ∀ {vs : List V} {its : List Value} {ds : List PyData}, Vals vs its → DpAll X.K H vs ds → PySem.W.EachIs (fun u (b : V × PyData) => ∃ as, Reads s.heap u b.2 as) its (vs.zip ds) := by
    intro vs its ds rv
    induction rv generalizing ds with
    | nil => intro h; exact .nil
    | cons r _ ih =>
      intro h
      cases h with
      | cons h1 h2 => exact .cons (Dp.reads I _ _ _ h1 r) (ih h2)
  have e3 : ∀ {its : List Value} {zs : List (V × PyData)}, PySem.W.EachIs (fun u (b : V × PyData) => RelV b.1 u) its zs → Vals (zs.map (·.1)) its := by
    intro its zs h
    induction h with
    | nil => exact .nil
    | cons h1 _ ih => exact .cons h1 ih
  refine PySem.W.sorted_data (R := fun u (b : V × PyData) => RelV b.1 u) (enc := Prod.snd) hl.isList (e1 rv hlen) (e2 rv hal) (by rw [hsnd]; exact hall) (by rw [hsnd]; exact hk) (by rw [List.length_zip]; omega) (fun b hb => ?_) fun out hol ho => ?_
  · have := hdp b.2 (List.of_mem_zip hb).2
    show X.A.units + 2 + b.2.depth < cLine
    omega
  · obtain ⟨ep, he'⟩ := sortedAll_at s.heap its out.toArray
    have hp := List.mergeSort_perm (vs.zip ds) (PySem.W.dataLe false Prod.snd)
    have hlz : (((vs.zip ds).mergeSort (PySem.W.dataLe false Prod.snd)).map (·.1)).length ≤ sizeLine := by rw [List.length_map, hp.length_eq, List.length_zip]; omega
    exact ⟨.ref _, upd H (s.heap.objs.size + 1) (.lst (((vs.zip ds).mergeSort (PySem.W.dataLe false Prod.snd)).map (·.1))), I.laid (t' := s.toks) (fun _ _ => sortedAll_old) (Nat.le_succ _) ⟨hlz, out, ep, e3 ho, by simpa using he'⟩, rfl, q _ _ hp rfl (I.hok.fresh (Nat.le_succ _))⟩
end Wp
set_option Elab.async false
set_option linter.all false
set_option maxRecDepth 100000
namespace Wp
open PySem PySem.Spec PyProof.Rows L2
section
variable {σ : L2.St} {H : Hp} {Q : VK} {D : Ends} {K : PySem.W.Frag}
/-! steps over dicts -/
theorem din {ty td : TE} (h : ty σ H fun y H1 => td σ H1 fun x H2 => ∃ a o, x = .ref a ∧ DGet H2 a y o ∧ Q (.bl o.isSome) H2) : tDIn ty td σ H Q := h
theorem dnotin {ty td : TE} (h : ty σ H fun y H1 => td σ H1 fun x H2 => ∃ a o, x = .ref a ∧ DGet H2 a y o ∧ Q (.bl (!o.isSome)) H2) : tDNotIn ty td σ H Q := h
theorem dget {td ty : TE} (h : td σ H fun x H1 => ty σ H1 fun y H2 => ∃ a v, x = .ref a ∧ DGet H2 a y (some v) ∧ Q v H2) : tDGet td ty σ H Q := h
theorem dget2 {td ty tx : TE} (h : td σ H fun x H1 => ∃ a, x = .ref a ∧ IsD H1 a ∧ ty σ H1 fun y H2 => tx σ H2 fun z H3 => ∃ o, DGet H3 a y o ∧ Q (o.getD z) H3) : tDGet2 td ty tx σ H Q := h
theorem dput {td ty tv : TE} (h : tv σ H fun v H1 => td σ H1 fun x H2 => ty σ H2 fun y H3 => ∃ a H4, x = .ref a ∧ DPut H3 a y v H4 ∧ D.nx σ H4) : sDPut td ty tv D σ H := h
theorem dnewK (h : ∀ p, H p = none → Q (.ref p) (upd H p (.dK []))) : tDNewK σ H Q := h
theorem dnewT (h : ∀ p, H p = none → Q (.ref p) (upd H p (.dT []))) : tDNewT σ H Q := h
theorem dK_in {a : Addr} {kvs : List (Key × V)} {z : Str} {R : Option V → Prop} (h : H a = some (.dK kvs)) (q : R (valV kvs (Sum.inr z))) : ∃ b o, V.ref a = .ref b ∧ DGet H b (.str z) o ∧ R o := ⟨a, _, rfl, DGet.k (k := Sum.inr z) h, q⟩
theorem dK_get {a : Addr} {kvs : List (Key × V)} {z : Str} {v : V} {R : V → Prop} (h : H a = some (.dK kvs)) (e : valV kvs (Sum.inr z) = some v) (q : R v) : ∃ b w, V.ref a = .ref b ∧ DGet H b (.str z) (some w) ∧ R w := ⟨a, v, rfl, by rw [← e]; exact DGet.k (k := Sum.inr z) h, q⟩
theorem dK_put {a : Addr} {kvs : List (Key × V)} {z : Str} {v : V} {R : Hp → Prop} (h : H a = some (.dK kvs)) (hl : kvs.length < sizeLine) (q : R (upd H a (.dK (putK kvs (Sum.inr z) v)))) : ∃ b H4, V.ref a = .ref b ∧ DPut H b (.str z) v H4 ∧ R H4 := ⟨a, _, rfl, DPut.k (k := Sum.inr z) h hl, q⟩
theorem dT_in {a b : Addr} {kvs : List (List Key × V)} {k : List Key} {R : Option V → Prop} (h : H a = some (.dT kvs)) (hb : H b = some (.tup (k.map kV))) (q : R (valV kvs k)) : ∃ c o, V.ref a = .ref c ∧ DGet H c (.ref b) o ∧ R o := ⟨a, _, rfl, DGet.t h hb, q⟩
theorem dT_put {a b : Addr} {kvs : List (List Key × V)} {k : List Key} {v : V} {R : Hp → Prop} (h : H a = some (.dT kvs)) (hb : H b = some (.tup (k.map kV))) (hl : kvs.length < sizeLine) (q : R (upd H a (.dT (putK kvs k v)))) : ∃ c H4, V.ref a = .ref c ∧ DPut H c (.ref b) v H4 ∧ R H4 := ⟨a, _, rfl, DPut.t h hb hl, q⟩
/-! lists: pop; texts: join -/
theorem bm0 {T : String} {r : V → List V → Hp → VK → Prop} {te : TE} (h : te σ H fun x H1 => tyV K T x H1 ∧ r x [] H1 Q) : tBM0 K T r te σ H Q := h
theorem pop {p : Addr} {xs : List V} {y : V} (s : H p = some (.lst (xs ++ [y]))) (h : Q y (upd H p (.lst xs))) : rPop (.ref p) [] H Q := ⟨p, xs ++ [y], y, rfl, rfl, s, by simp, by simpa using h⟩
theorem wbm0 {X : Cx} {K : PySem.W.Frag} {T : String} {r : V → List V → Hp → VK → Prop} {e : Expr} {te : TE} (h : PE X e (tBM0 X.K T r te)) (hK : X.K = K := by rfl) : PE X e (tBM0 K T r te) := by subst hK; exact h
def rJoin (K : PySem.W.Frag) : V → List V → Hp → VK → Prop := fun x xs H Q => ∃ a p, ∃ ys : List Str, x = .str a ∧ xs = [.ref p] ∧ (SqL K H p (ys.map V.str) ∨ SqT K H p (ys.map V.str)) ∧ (ys.map (·.length)).sum + ys.length * a.length ≤ 16777216 ∧ Q (.str (Txt.join a ys)) H
theorem wjoin {X : Cx} {K : PySem.W.Frag} {e : Expr} {te tf : TE} (h : PE X e (tM1 (rJoin X.K) te tf)) (hK : X.K = K := by rfl) : PE X e (tM1 (rJoin K) te tf) := by subst hK; exact h
theorem m1 {r : V → List V → Hp → VK → Prop} {te tf : TE} (h : te σ H fun x H1 => (∃ a, x = .str a) ∧ tf σ H1 fun y H2 => r x [y] H2 Q) : tM1 r te tf σ H Q := h
theorem exs {a : Str} {P : Prop} (h : P) : (∃ b, V.str a = .str b) ∧ P := ⟨⟨a, rfl⟩, h⟩
/-- x is None, x is not None -/
def rIs0 : R2 := fun x y H Q => y = .non ∧ Q (.bl (decide (x = .non))) H
def rNot0 : R2 := fun x y H Q => y = .non ∧ Q (.bl (!decide (x = .non))) H
theorem is0 {x : V} (h : Q (.bl (decide (x = .non))) H) : rIs0 x .non H Q := ⟨rfl, h⟩
theorem isnot0 {x : V} (h : Q (.bl (!decide (x = .non))) H) : rNot0 x .non H Q := ⟨rfl, h⟩
/-! fields -/
theorem fld {ta : TE} {f : Str} (h : ta σ H fun x H1 => ∃ a C dx fs v, x = .ref a ∧ H1 a = some (.ins C dx fs) ∧ Cls K C ∧ NoAttr K C f ∧ fs.lookup f = some v ∧ Q v H1) : tFld K ta f σ H Q := h
theorem sfld {ta tv : TE} {f : Str} (h : tv σ H fun y H1 => ta σ H1 fun x H2 => ∃ a C dx fs, x = .ref a ∧ H2 a = some (.ins C dx fs) ∧ Cls K C ∧ NoAttr K C f ∧ fs.length < 1000 ∧ D.nx σ (upd H2 a (.ins C dx (putF f y fs)))) : sFld K ta tv f D σ H := h
theorem itnn {α : Type} {x : α} {i : Decidable (x = x)} {A B : Prop} (h2 : B) : if (!(@decide (x = x) i)) = true then A else B := Wp.itn (fun h => (h rfl).elim) (fun _ => h2)
end
theorem wo_is {X : Cx} : OpR X (compareOp .Is) rIs0 := op_isN
theorem wo_isnot {X : Cx} : OpR X (compareOp .IsNot) rNot0 := op_notN
theorem wfld {X : Cx} {K : PySem.W.Frag} {e : Expr} {te : TE} {f : Str} (h : PE X e (tFld X.K te f)) (hK : X.K = K := by rfl) : PE X e (tFld K te f) := by subst hK; exact h
theorem wsfld {X : Cx} {K : PySem.W.Frag} {s : Stmt} {te tv : TE} {f : Str} (h : PS X s (sFld X.K te tv f)) (hK : X.K = K := by rfl) : PS X s (sFld K te tv f) := by subst hK; exact h
/-- list(x) of rows, of dicts with tuple keys, of dicts with text keys -/
def rLstT : List V → Hp → VK → Prop := fun xs H Q => ∃ d kvs, xs = [V.ref d] ∧ Rd H d (.dT kvs) ∧ ∀ p bs, H p = none → IsKeys H kvs bs → Q (.ref p) (upd H p (.lst (bs.map V.ref)))
def rLstU (K : PySem.W.Frag) : List V → Hp → VK → Prop := fun xs H Q => rLstOf K xs H Q ∨ rLstT xs H Q ∨ rListD xs H Q
theorem wc_listU {X : Cx} {K : PySem.W.Frag} (hc : X.calm = true) (hK : X.K = K := by rfl) : CallR X (.type "list") (rLstU K) := by subst hK; exact call_list_of.or ((call_list_dT hc).or (call_list_dK hc))
end Wp
set_option Elab.async false
set_option linter.all false
set_option maxRecDepth 100000
namespace Bk
open PySem PySem.Spec PyProof.Rows L2
/-! texts as lists of signs -/
abbrev cl (z : Str) : List Nat := z.cps.toList
def mkS (l : List Nat) : Str := ⟨l.toArray⟩
theorem cl_mk (l : List Nat) : cl (mkS l) = l := by simp [cl, mkS]
theorem mk_cl (z : Str) : mkS (cl z) = z := by
  obtain ⟨a⟩ := z
  simp [cl, mkS]
theorem len_cl (z : Str) : (cl z).length = z.length := by show z.cps.toList.length = z.cps.size; simp
theorem len_mk (l : List Nat) : (mkS l).length = l.length := by rw [← len_cl, cl_mk]
theorem ext {a b : Str} (h : cl a = cl b) : a = b := by rw [← mk_cl a, ← mk_cl b, h]
theorem cutS_lo {z : Str} {i : Int} (k : Nat) (e : i = k) : cutS z (some i) none = mkS ((cl z).drop k) := by
  subst e
  unfold cutS mkS
  have hl := len_cl z
  rw [HT.sIx_none, HT.sIx_nat, List.take_of_length_le (by rw [List.length_drop, hl]; exact Nat.le_refl _)]
  rcases Nat.le_total k z.length with h | h
  · rw [Nat.min_eq_left h]
  · rw [Nat.min_eq_right h, List.drop_of_length_le (by rw [hl]; exact Nat.le_refl _), List.drop_of_length_le (by rw [hl]; exact h)]
theorem cutS_hi {z : Str} {i : Int} (k : Nat) (e : i = k) : cutS z none (some i) = mkS ((cl z).take k) := by
  subst e
  unfold cutS mkS
  rw [HT.sIx_none, HT.sIx_nat, List.drop_zero, Nat.sub_zero]
  have hl := len_cl z
  rcases Nat.le_total k z.length with h | h
  · rw [Nat.min_eq_left h]
  · rw [Nat.min_eq_right h, List.take_of_length_le (by rw [hl]; exact Nat.le_refl _), List.take_of_length_le (by rw [hl]; exact h)]
theorem cutS_mid {z : Str} {i j : Int} (k m : Nat) (e : i = k) (e2 : j = m) (hk : k ≤ z.length) : cutS z (some i) (some j) = mkS (((cl z).drop k).take (m - k)) := by
  subst e; subst e2
  unfold cutS mkS
  rw [HT.sIx_nat, HT.sIx_nat, Nat.min_eq_left hk]
  have hl := len_cl z
  rcases Nat.le_total m z.length with h | h
  · rw [Nat.min_eq_left h]
  · rw [Nat.min_eq_right h, List.take_of_length_le (by rw [List.length_drop, hl]; exact Nat.le_refl _), List.take_of_length_le (by rw [List.length_drop, hl]; omega)]
theorem cutV_tail4 {xs : List V} : cutV xs (some (-4)) none = xs.drop (xs.length - 4) := by
  unfold cutV
  have e : HT.sIx xs.length 0 (some (-4)) = xs.length - 4 := by
    show (if (-4 : Int) < 0 then ((-4 : Int) + (xs.length : Int)).toNat else min (-4 : Int).toNat xs.length) = _
    rw [if_pos (by omega)]; omega
  rw [HT.sIx_none, e]
  exact List.take_of_length_le (by rw [List.length_drop]; exact Nat.le_refl _)
abbrev ch (c : Nat) : V := .str ⟨#[c]⟩
theorem join_chars (l : List Nat) : Txt.join "" (l.map fun c => (⟨#[c]⟩ : Str)) = mkS l := by
  refine ext ?_
  rw [cl_mk]
  show TL.tl (Txt.join "" (l.map fun c => (⟨#[c]⟩ : Str))) = l
  rw [TL.join_eq, TL.tl_join]
  show TL.joinL [] ((l.map fun c => (⟨#[c]⟩ : Str)).map TL.tl) = l
  induction l with
  | nil => rfl
  | cons a t ih =>
    cases t with
    | nil => rfl
    | cons b t =>
      show [a] ++ ([] ++ TL.joinL [] (((b :: t).map fun c => (⟨#[c]⟩ : Str)).map TL.tl)) = _
      rw [ih]; rfl
/-! the first rule with a left side -/
def firstFrom : Nat → List (Str × Str) → Str → Option (Nat × Str)
  | _, [], _ => none
  | i, (l, r) :: t, x => if l = x then some (i, r) else firstFrom (i + 1) t x
abbrev firstOf (rs : List (Str × Str)) (x : Str) : Option (Nat × Str) := firstFrom 0 rs x
theorem firstFrom_snoc {l r x : Str} : ∀ {rs : List (Str × Str)} {i : Nat}, firstFrom i (rs ++ [(l, r)]) x = match firstFrom i rs x with
    | some y => some y
    | none => if l = x then some (i + rs.length, r) else none
  | [], i => by
    show (if l = x then some (i, r) else none) = if l = x then some (i + 0, r) else none
    rfl
  | (a, b) :: rs, i => by
    show (if a = x then some (i, b) else firstFrom (i + 1) (rs ++ [(l, r)]) x) = match (if a = x then some (i, b) else firstFrom (i + 1) rs x) with
      | some y => some y
      | none => if l = x then some (i + (rs.length + 1), r) else none
    by_cases h : a = x
    · rw [if_pos h, if_pos h]
    · rw [if_neg h, if_neg h, firstFrom_snoc, show i + 1 + rs.length = i + (rs.length + 1) by omega]
theorem firstFrom_mem {x : Str} {n : Nat} {r : Str} : ∀ {rs : List (Str × Str)} {i : Nat}, firstFrom i rs x = some (n, r) → i ≤ n ∧ rs[n - i]? = some (x, r)
  | [], _, h => by cases h
  | (a, b) :: rs, i, h => by
    have h' : (if a = x then some (i, b) else firstFrom (i + 1) rs x) = some (n, r) := h
    by_cases e : a = x
    · rw [if_pos e] at h'
      cases h'
      subst e
      exact ⟨Nat.le_refl _, by simp⟩
    · rw [if_neg e] at h'
      obtain ⟨h1, h2⟩ := firstFrom_mem h'
      refine ⟨by omega, ?_⟩
      rw [show n - i = (n - (i + 1)) + 1 by omega]
      simpa using h2
theorem firstOf_mem {x : Str} {n : Nat} {r : Str} {rs : List (Str × Str)} (h : firstOf rs x = some (n, r)) : rs[n]? = some (x, r) := by simpa using (firstFrom_mem h).2
/-- the first rule that fits: at which a piece from a start on is a left side -/
def stepFit (rs : List (Str × Str)) (tail : List Nat) (best : Option (Nat × Str × Str)) (k : Nat) : Option (Nat × Str × Str) := match firstOf rs (mkS (tail.drop k)) with
  | none => best
  | some (n, r) => match best with
    | none => some (n, mkS (tail.drop k), r)
    | some (m, x, y) => if n < m then some (n, mkS (tail.drop k), r) else some (m, x, y)
def fit (rs : List (Str × Str)) (tail : List Nat) : Option (Nat × Str × Str) := (List.range tail.length).foldl (stepFit rs tail) none
/-- rules of which each left side is longer than its right side -/
def Good (rs : List (Str × Str)) : Prop := ∀ p ∈ rs, p.1.length ≤ 4 ∧ p.2.length ≤ 1 ∧ p.2.length < p.1.length
theorem fit_mem {rs : List (Str × Str)} {tail : List Nat} : ∀ (ks : List Nat) (b : Option (Nat × Str × Str)), (∀ n l r, b = some (n, l, r) → rs[n]? = some (l, r) ∧ ∃ k, cl l = tail.drop k) →
    ∀ n l r, ks.foldl (stepFit rs tail) b = some (n, l, r) → rs[n]? = some (l, r) ∧ ∃ k, cl l = tail.drop k
  | [], b, h, n, l, r, e => h n l r e
  | k :: ks, b, h, n, l, r, e => by
    refine fit_mem ks (stepFit rs tail b k) (fun n l r e => ?_) n l r e
    unfold stepFit at e
    cases hf : firstOf rs (mkS (tail.drop k)) with
    | none => rw [hf] at e; exact h n l r e
    | some q =>
      obtain ⟨m, y⟩ := q
      rw [hf] at e
      cases b with
      | none => cases e; exact ⟨firstOf_mem hf, k, cl_mk _⟩
      | some q =>
        obtain ⟨m2, x2, y2⟩ := q
        simp only at e
        split at e
        · cases e; exact ⟨firstOf_mem hf, k, cl_mk _⟩
        · exact h n l r e
theorem fit_ok {rs : List (Str × Str)} {tail : List Nat} {n : Nat} {l r : Str} (h : fit rs tail = some (n, l, r)) : rs[n]? = some (l, r) ∧ ∃ k, cl l = tail.drop k := fit_mem _ none (fun _ _ _ z => nomatch z) n l r h
abbrev last4 (p : List Nat) : List Nat := p.drop (p.length - 4)
/-- the pile while rules fit -/
def shrinkP (rs : List (Str × Str)) : Nat → List Nat → List Nat
  | 0, p => p
  | f + 1, p => match fit rs (last4 p) with
    | none => p
    | some (_, l, r) => shrinkP rs f (p.take (p.length - l.length) ++ cl r)
def overP (rs : List (Str × Str)) (text : List Nat) : List Nat := text.foldl (fun p c => shrinkP rs (p ++ [c]).length (p ++ [c])) []
theorem fit_len {rs : List (Str × Str)} (g : Good rs) {p : List Nat} {n : Nat} {l r : Str} (h : fit rs (last4 p) = some (n, l, r)) : 1 ≤ l.length ∧ l.length ≤ 4 ∧ r.length ≤ 1 ∧ r.length < l.length ∧ l.length ≤ p.length := by
  obtain ⟨h1, k, h2⟩ := fit_ok h
  obtain ⟨a, b, c⟩ := g _ (List.mem_of_getElem? h1)
  have : l.length ≤ p.length := by
    rw [← len_cl, h2, List.length_drop, List.length_drop]; omega
  simp only at a b c
  exact ⟨by omega, a, b, c, this⟩
/-- enough turns -/
theorem shrinkP_more {rs : List (Str × Str)} (g : Good rs) : ∀ (f e : Nat) (p : List Nat), p.length ≤ f → p.length ≤ e → shrinkP rs f p = shrinkP rs e p
  | 0, 0, _, _, _ => rfl
  | 0, e + 1, p, h, _ => by
    have hp : p = [] := List.length_eq_zero_iff.mp (by omega)
    subst hp
    rfl
  | f + 1, 0, p, _, h => by
    have hp : p = [] := List.length_eq_zero_iff.mp (by omega)
    subst hp
    rfl
  | f + 1, e + 1, p, h1, h2 => by
    unfold shrinkP
    cases h : fit rs (last4 p) with
    | none => rfl
    | some q =>
      obtain ⟨n, l, r⟩ := q
      obtain ⟨_, _, _, h3, h4⟩ := fit_len g h
      refine shrinkP_more g f e _ ?_ ?_ <;> (rw [List.length_append, List.length_take, len_cl]; omega)
/-- the rules that stand at addresses -/
def RulesAt (H : Hp) : List Addr → List (Str × Str) → Prop
  | [], [] => True
  | b :: bs, p :: ps => H b = some (.tup [.str p.1, .str p.2]) ∧ RulesAt H bs ps
  | _, _ => False
theorem RulesAt.same {H H' : Hp} (s : Same H H') : ∀ {bs : List Addr} {ps : List (Str × Str)}, RulesAt H bs ps → RulesAt H' bs ps
  | [], [], _ => trivial
  | _ :: _, _ :: _, h => ⟨s _ _ h.1, RulesAt.same s h.2⟩
  | [], _ :: _, h => h.elim
  | _ :: _, [], h => h.elim
theorem RulesAt.len {H : Hp} : ∀ {bs : List Addr} {ps : List (Str × Str)}, RulesAt H bs ps → bs.length = ps.length
  | [], [], _ => rfl
  | _ :: _, _ :: _, h => by rw [List.length_cons, List.length_cons, RulesAt.len h.2]
  | [], _ :: _, h => h.elim
  | _ :: _, [], h => h.elim
theorem RulesAt.get {H : Hp} : ∀ {bs : List Addr} {ps : List (Str × Str)} {i : Nat} {p : Str × Str}, RulesAt H bs ps → ps[i]? = some p → ∃ b, bs[i]? = some b ∧ H b = some (.tup [.str p.1, .str p.2])
  | _ :: _, _ :: _, 0, _, h, e => by simp at e; subst e; exact ⟨_, rfl, h.1⟩
  | _ :: _, _ :: _, i + 1, _, h, e => by
    obtain ⟨b, h1, h2⟩ := RulesAt.get (i := i) h.2 (by simpa using e)
    exact ⟨b, by simpa using h1, h2⟩
  | [], [], _, _, _, e => by simp at e
  | [], _ :: _, _, _, h, _ => h.elim
  | _ :: _, [], _, _, h, _ => h.elim
/-- what a rule is -/
structure RuleOk (sg l r : Str) : Prop where
  l4 : l.length ≤ 4
  r1 : r.length ≤ 1
  lt : r.length < l.length
  lc : ∀ c ∈ l.cps.toList, c ∈ sg.cps.toList
  rc : ∀ c ∈ r.cps.toList, c ∈ sg.cps.toList
end Bk
set_option Elab.async false
set_option linter.all false
set_option maxRecDepth 100000
namespace Bk
open PySem PySem.Spec PyProof.Rows L2
def RelF (H : Hp) : Option V → Option (Nat × Str) → Prop
  | none, none => True
  | some v, some (n, r) => ∃ b, v = .ref b ∧ H b = some (.tup [.int n, .str r])
  | _, _ => False
theorem RelF.same {H H' : Hp} (s : ∀ b xs, H b = some (.tup xs) → H' b = some (.tup xs)) : ∀ {o : Option V} {p : Option (Nat × Str)}, RelF H o p → RelF H' o p
  | none, none, _ => trivial
  | some _, some _, ⟨b, e, h⟩ => ⟨b, e, s _ _ h⟩
  | none, some _, h => h.elim
  | some _, none, h => h.elim
/-- the dict of first rights of rules -/
structure RightsAt (H : Hp) (d : Addr) (rs : List (Str × Str)) : Prop where
  ex : ∃ kvs : List (Key × V), H d = some (.dK kvs) ∧ kvs.length ≤ rs.length ∧ ∀ x, RelF H (valV kvs (Sum.inr x)) (firstOf rs x)
theorem RightsAt.same {H H' : Hp} {d : Addr} {rs : List (Str × Str)} (s : Same H H') (h : RightsAt H d rs) : RightsAt H' d rs := by
  obtain ⟨kvs, h1, h2, h3⟩ := h.ex
  exact ⟨kvs, s _ _ h1, h2, fun x => (h3 x).same fun b xs e => s _ _ e⟩
theorem rights_get {H : Hp} {kvs : List (Key × V)} {rs : List (Str × Str)} {x : Str} (h : ∀ x, RelF H (valV kvs (Sum.inr x)) (firstOf rs x)) : (valV kvs (Sum.inr x)).isSome = (firstOf rs x).isSome := by
  have := h x
  cases h1 : valV kvs (Sum.inr x) <;> cases h2 : firstOf rs x <;> rw [h1, h2] at this <;> first | rfl | exact this.elim
theorem rights_some {H : Hp} {kvs : List (Key × V)} {rs : List (Str × Str)} {x : Str} {n : Nat} {r : Str} (h : ∀ x, RelF H (valV kvs (Sum.inr x)) (firstOf rs x)) (e : firstOf rs x = some (n, r)) : ∃ b, valV kvs (Sum.inr x) = some (.ref b) ∧ H b = some (.tup [.int n, .str r]) := by
  have := h x
  rw [e] at this
  cases h1 : valV kvs (Sum.inr x) with
  | none => rw [h1] at this; exact this.elim
  | some v =>
    rw [h1] at this
    obtain ⟨b, rfl, hb⟩ := this
    exact ⟨b, rfl, hb⟩
/-- one rule more, its left side not there yet -/
theorem rights_new {H : Hp} {d T : Addr} {kvs : List (Key × V)} {rs : List (Str × Str)} {l r : Str} (hd : H d = some (.dK kvs)) (hl : kvs.length ≤ rs.length) (h : ∀ x, RelF H (valV kvs (Sum.inr x)) (firstOf rs x)) (e : firstOf rs l = none) (hT : H T = some (.tup [.int (rs.length : Nat), .str r])) :
    RightsAt (upd H d (.dK (putK kvs (Sum.inr l) (.ref T)))) d (rs ++ [(l, r)]) := by
  have hn : valV kvs (Sum.inr l) = none := by
    have := rights_get h (x := l)
    rw [e] at this
    cases q : valV kvs (Sum.inr l) with
    | none => rfl
    | some _ => rw [q] at this; cases this
  refine ⟨_, upd_same, ?_, fun x => ?_⟩
  · have := length_putK kvs (Sum.inr l) (V.ref T)
    rw [List.length_append]; simp; omega
  · have hk : ∀ b xs, H b = some (.tup xs) → upd H d (.dK (putK kvs (Sum.inr l) (.ref T))) b = some (.tup xs) := fun b xs e => by
      rw [upd_ne (ne_of e hd (by intro z; cases z))]; exact e
    rw [valV_put]
    show RelF _ _ (firstFrom 0 (rs ++ [(l, r)]) x)
    rw [firstFrom_snoc]
    by_cases hx : x = l
    · subst hx
      rw [if_pos rfl]
      have e' : firstFrom 0 rs x = none := e
      rw [e']
      show RelF _ _ (if x = x then some (0 + rs.length, r) else none)
      rw [if_pos rfl, Nat.zero_add]
      exact ⟨T, rfl, hk _ _ hT⟩
    · rw [if_neg (fun z => hx (Sum.inr.inj z))]
      have hh := (h x).same hk
      cases q : firstFrom 0 rs x with
      | none =>
        show RelF _ _ (if l = x then some (0 + rs.length, r) else none)
        rw [if_neg (fun z => hx z.symm)]
        rw [show firstOf rs x = none from q] at hh
        exact hh
      | some y =>
        rw [show firstOf rs x = some y from q] at hh
        exact hh
theorem rights_old {H : Hp} {d : Addr} {rs : List (Str × Str)} {l r : Str} (h : RightsAt H d rs) (e : firstOf rs l ≠ none) : RightsAt H d (rs ++ [(l, r)]) := by
  obtain ⟨kvs, h1, h2, h3⟩ := h.ex
  refine ⟨kvs, h1, by rw [List.length_append]; omega, fun x => ?_⟩
  show RelF _ _ (firstFrom 0 (rs ++ [(l, r)]) x)
  rw [firstFrom_snoc]
  have hh := h3 x
  cases q : firstFrom 0 rs x with
  | some y => rw [show firstOf rs x = some y from q] at hh; exact hh
  | none =>
    rw [show firstOf rs x = none from q] at hh
    show RelF _ _ (if l = x then some (0 + rs.length, r) else none)
    rw [if_neg (fun z => by subst z; exact e q)]
    exact hh
/-- the best fit so far -/
def BestV (H : Hp) (v : V) : Option (Nat × Str × Str) → Prop
  | none => v = .non
  | some (n, l, r) => ∃ b, v = .ref b ∧ H b = some (.tup [.int n, .str l, .str r])
theorem BestV.same {H H' : Hp} {v : V} (s : Same H H') : ∀ {o : Option (Nat × Str × Str)}, BestV H v o → BestV H' v o
  | none, h => h
  | some _, ⟨b, e, h⟩ => ⟨b, e, s _ _ h⟩
theorem sls {K : PySem.W.Frag} {z : Str} {lo hi : Option Int} {H : Hp} {Q : VK} (h : z.length ≤ 1000) (q : Q (.str (cutS z lo hi)) H) : Wp.rSlU K (.str z) lo hi H Q := .inr (.inr ⟨z, rfl, Nat.le_of_lt (small1000 h), q⟩)
theorem best_none {H : Hp} {v : V} {o : Option (Nat × Str × Str)} (h : BestV H v o) : decide (v = .non) = o.isNone := by
  cases o with
  | none => cases h; rfl
  | some p =>
    obtain ⟨b, rfl, _⟩ := h
    rfl
theorem last_snoc {α : Type} (l : List α) (h : 0 < l.length) : ∃ c, l = l.take (l.length - 1) ++ [c] := by
  rcases List.eq_nil_or_concat l with z | ⟨a, c, z⟩
  · subst z; exact absurd h (by simp)
  · rw [List.concat_eq_append] at z
    subst z
    exact ⟨c, by simp⟩
theorem sum_ones (l : List Nat) : ((l.map fun c => (⟨#[c]⟩ : Str)).map (·.length)).sum = l.length := by
  induction l with
  | nil => rfl
  | cons a l ih =>
    rw [List.map_cons, List.map_cons, List.sum_cons, ih, List.length_cons]
    show 1 + l.length = l.length + 1
    omega
theorem joinC {K : PySem.W.Frag} {p : Addr} {l : List Nat} {H : Hp} {Q : VK} (s : SqL K H p (l.map ch)) (h : l.length ≤ 1000000) (q : Q (.str (mkS l)) H) : Wp.rJoin K (.str "") [.ref p] H Q := by
  refine ⟨"", p, l.map fun c => (⟨#[c]⟩ : Str), rfl, rfl, .inl ?_, ?_, ?_⟩
  · rw [List.map_map]; exact s
  · rw [sum_ones, List.length_map]
    show l.length + l.length * 0 ≤ 16777216
    omega
  · rw [join_chars]; exact q
theorem cut4 {cs : List Nat} : cutV (cs.map ch) (some (-4)) none = (last4 cs).map ch := by
  rw [cutV_tail4, List.length_map, List.map_drop]
theorem shrinkP_none {rs : List (Str × Str)} {p : List Nat} (h : fit rs (last4 p) = none) : ∀ f, shrinkP rs f p = p
  | 0 => rfl
  | f + 1 => by unfold shrinkP; rw [h]
theorem shrinkP_some {rs : List (Str × Str)} (g : Good rs) {p : List Nat} {n : Nat} {l r : Str} (h : fit rs (last4 p) = some (n, l, r)) : shrinkP rs p.length p = shrinkP rs (p.take (p.length - l.length) ++ cl r).length (p.take (p.length - l.length) ++ cl r) := by
  obtain ⟨h1, h2, h3, h4, h5⟩ := fit_len g h
  obtain ⟨f, hf⟩ : ∃ f, p.length = f + 1 := ⟨p.length - 1, by omega⟩
  have h6 : shrinkP rs (f + 1) p = shrinkP rs f (p.take (p.length - l.length) ++ cl r) := by rw [shrinkP, h]
  refine (congrArg (fun n => shrinkP rs n p) hf).trans (h6.trans (shrinkP_more g _ _ _ ?_ (Nat.le_refl _)))
  rw [List.length_append, List.length_take, len_cl]; omega
theorem truS {K : PySem.W.Frag} {H : Hp} {z : Str} {R : Bool → Prop} (s : z.length ≤ 1000) (h : R ((z.length : Int) != 0)) : ∃ k, TruV K (.str z) H k ∧ R k := ⟨_, ⟨Nat.le_of_lt (small1000 s), rfl⟩, h⟩
/-- a while loop whose test reads one name -/
theorem whileN {i : Nat} {tb : TS} {D : Ends} {σ : L2.St} {H : Hp} (Pv : L2.St → Hp → Prop) (μ : L2.St → Hp → Nat) (h0 : Pv σ H)
    (hs : ∀ σ H, Pv σ H → ∃ v, σ[i]? = some (some v) ∧ if (!decide (v = .non)) = true then tb { D with nx := fun σ' H' => Pv σ' H' ∧ μ σ' H' < μ σ H, ct := fun σ' H' => Pv σ' H' ∧ μ σ' H' < μ σ H, bk := D.nx } σ H else D.nx σ H) : tWhile (tTest (tOp Wp.rNot0 (tVar i) (tC .non))) tb D σ H := by
  refine while_by Pv μ h0 (fun σ H p => ?_) (fun σ H Q Q' hq h => ?_)
  · obtain ⟨v, e, h⟩ := hs σ H p
    exact ⟨v, e, rfl, _, rfl, h⟩
  · obtain ⟨v, e, h0, k, e2, q⟩ := h
    exact ⟨v, e, h0, k, e2, hq _ _ q⟩
end Bk
set_option Elab.async false
set_option linter.all false
set_option maxRecDepth 100000
namespace Bk
open PySem PySem.Spec PyProof.Rows L2
/-- a text with a right side in the place of a left one -/
def usedS (t : Str) (place : Int) (l r : Str) : Str := cutS t none (some place) ++ r ++ cutS t (some (place + l.length)) none
theorem len_app (a b : Str) : (a ++ b).length = a.length + b.length := by
  rw [← len_cl, ← len_cl, ← len_cl, show cl (a ++ b) = cl a ++ cl b from TL.tl_append a b, List.length_append]
theorem cutS_le (t : Str) (lo hi : Option Int) : (cutS t lo hi).length ≤ t.length := by
  show (mkS _).length ≤ _
  rw [len_mk, List.length_take, List.length_drop]
  have := len_cl t
  show min _ ((cl t).length - _) ≤ _
  omega
theorem usedS_le (t : Str) (p : Int) (l r : Str) : (usedS t p l r).length ≤ 2 * t.length + r.length := by
  unfold usedS
  rw [len_app, len_app]
  have := cutS_le t none (some p)
  have := cutS_le t (some (p + l.length)) none
  omega
/-- the text of an overlap -/
def bothOf (l : Str) (p : Int) (o : Str) : Int := if (o.length : Int) < (l.length : Int) - p then (o.length : Int) else (l.length : Int) - p
def ovText (l : Str) (p : Int) (o : Str) : Option Str := if cutS l (some p) (some (p + bothOf l p o)) = cutS o none (some (bothOf l p o)) then some (l ++ cutS o (some (bothOf l p o)) none) else none
theorem ovText_le {l o z : Str} {p : Int} (h : ovText l p o = some z) : z.length ≤ l.length + o.length := by
  unfold ovText at h
  by_cases e : cutS l (some p) (some (p + bothOf l p o)) = cutS o none (some (bothOf l p o))
  · rw [if_pos e] at h
    cases h
    rw [len_app]
    have := cutS_le o (some (bothOf l p o)) none
    omega
  · rw [if_neg e] at h; cases h
/-- a list, known as its items ahead and one more -/
abbrev Ov := Str × Nat × Nat × Nat
def ovOk (n : Nat) (o : Ov) : Prop := o.1.length ≤ 8 ∧ o.2.1 < n ∧ o.2.2.1 ≤ 3 ∧ o.2.2.2 < n
abbrev ov5 (o : Ov) : PyData := .tuple [.int (o.1.length : Nat), .str o.1, .int (o.2.1 : Nat), .int (o.2.2.1 : Nat), .int (o.2.2.2 : Nat)]
theorem ov5_no (o : Ov) : Wp.noL (ov5 o) = true := by simp [ov5, Wp.noL, Wp.noLA]
theorem ov5s_no : ∀ os : List Ov, Wp.noLA (os.map ov5) = true
  | [] => rfl
  | o :: os => by
    show (Wp.noL (ov5 o) && Wp.noLA (os.map ov5)) = true
    rw [ov5_no, ov5s_no os]; rfl
theorem ov5_alike (os : List Ov) : PySem.W.AllAlike (os.map ov5) := fun d hd d' hd' => by
  obtain ⟨o, _, rfl⟩ := List.mem_map.mp hd
  obtain ⟨o', _, rfl⟩ := List.mem_map.mp hd'
  simp only [PySem.W.alike, PySem.W.alikeAll]; rfl
theorem ov5_sortable (os : List Ov) : PySem.W.Sortable (os.map ov5) := .inl fun d hd => by
  obtain ⟨o, _, rfl⟩ := List.mem_map.mp hd
  exact ⟨_, _, rfl⟩
theorem ov5_depth (o : Ov) : (ov5 o).depth ≤ 60 := by simp [PyData.depth, PyData.depthAll]
theorem dps_zip {K : PySem.W.Frag} {H : Hp} : ∀ {vs : List V} {ds : List PyData}, DpAll K H vs ds → ∀ p ∈ vs.zip ds, Dp K H p.1 p.2
  | _, _, .nil, p, hp => by cases hp
  | _, _, .cons r t, p, hp => by
    rcases List.mem_cons.mp hp with z | z
    · subst z; exact r
    · exact dps_zip t p z
theorem _root_.Wp.irng2 {σ : L2.St} {H : Hp} {ta : TA} {R : It → Hp → Prop} (h : ta σ H fun vs H1 => ∃ i j : Int, vs = [.int i, .int j] ∧ (-(2 ^ 62) ≤ i ∧ i < 2 ^ 62 ∧ -(2 ^ 62) ≤ j ∧ j < 2 ^ 62) ∧ R (Itr i (j - i).toNat) H1) : iRng2 ta σ H R := h
/-- overlaps found so far, in a list -/
structure FoundAt (K : PySem.W.Frag) (H : Hp) (F : Addr) (n : Nat) (m : Nat) : Prop where
  ex : ∃ (ws : List V) (os : List Ov), H F = some (.lst ws) ∧ DpAll K H ws (os.map ov5) ∧ (∀ o ∈ os, ovOk n o) ∧ os.length ≤ m
theorem FoundAt.same {K : PySem.W.Frag} {H H' : Hp} {F : Addr} {n m : Nat} (s : Same H H') (h : FoundAt K H F n m) : FoundAt K H' F n m := by
  obtain ⟨ws, os, h1, h2, h3, h4⟩ := h.ex
  exact ⟨ws, os, s _ _ h1, Wp.dps_same s _ _ h2, h3, h4⟩
theorem FoundAt.mono {K : PySem.W.Frag} {H : Hp} {F : Addr} {n m m' : Nat} (h : FoundAt K H F n m) (l : m ≤ m') : FoundAt K H F n m' := by
  obtain ⟨ws, os, h1, h2, h3, h4⟩ := h.ex
  exact ⟨ws, os, h1, h2, h3, Nat.le_trans h4 l⟩
theorem FoundAt.push {K : PySem.W.Frag} {H : Hp} {F T : Addr} {n m : Nat} {ws : List V} {os : List Ov} {o : Ov} (h1 : H F = some (.lst ws)) (h2 : DpAll K H ws (os.map ov5)) (h3 : ∀ o ∈ os, ovOk n o) (h4 : os.length ≤ m) (ho : ovOk n o) (hT : Dp K H (.ref T) (ov5 o)) :
    FoundAt K (upd H F (.lst (ws ++ [.ref T]))) F n (m + 1) := by
  refine ⟨_, os ++ [o], upd_same, ?_, fun x hx => ?_, by rw [List.length_append]; simp; omega⟩
  · rw [List.map_append]
    exact Wp.dps_append (Wp.dps_upd h1 _ _ (ov5s_no os) h2) (.cons (Wp.dp_upd h1 _ _ (ov5_no o) hT) .nil)
  · rcases List.mem_append.mp hx with z | z
    · exact h3 x z
    · rw [List.mem_singleton.mp z]; exact ho
end Bk
set_option Elab.async false
set_option linter.all false
set_option maxRecDepth 100000
namespace Bk
open PySem PySem.Spec PyProof.Rows L2
section
set_option maxRecDepth 100000 in
set_option maxHeartbeats 4000000 in
end
/-- a list is extended by a list or by a tuple -/
def rExtU (K : PySem.W.Frag) : V → List V → Hp → VK → Prop := fun x vs H Q => rExtend x vs H Q ∨ ∃ l b xs zs, x = .ref l ∧ vs = [.ref b] ∧ H l = some (.lst xs) ∧ SqT K H b zs ∧ xs.length + zs.length ≤ sizeLine ∧ Q .non (upd H l (.lst (xs ++ zs)))
/-! the numbers of a left side -/
def numsFrom : Nat → List (Str × Str) → Str → List Nat
  | _, [], _ => []
  | i, (l, _) :: t, x => if l = x then i :: numsFrom (i + 1) t x else numsFrom (i + 1) t x
abbrev numsOf (rs : List (Str × Str)) (x : Str) : List Nat := numsFrom 0 rs x
def nv (n : Nat) : V := .int (n : Nat)
def RelN (K : PySem.W.Frag) (H : Hp) : Option V → List Nat → Prop
  | none, ns => ns = []
  | some v, ns => ∃ b, v = .ref b ∧ SqT K H b (ns.map nv)
structure NumsAt (K : PySem.W.Frag) (H : Hp) (d : Addr) (rs : List (Str × Str)) : Prop where
  ex : ∃ kvs : List (Key × V), H d = some (.dK kvs) ∧ kvs.length ≤ rs.length ∧ ∀ x, RelN K H (valV kvs (Sum.inr x)) (numsOf rs x)
theorem RelN.same {K : PySem.W.Frag} {H H' : Hp} (s : ∀ b xs, SqT K H b xs → SqT K H' b xs) : ∀ {o : Option V} {ns : List Nat}, RelN K H o ns → RelN K H' o ns
  | none, _, h => h
  | some _, _, ⟨b, e, h⟩ => ⟨b, e, s _ _ h⟩
theorem NumsAt.same {K : PySem.W.Frag} {H H' : Hp} {d : Addr} {rs : List (Str × Str)} (s : Same H H') (h : NumsAt K H d rs) : NumsAt K H' d rs := by
  obtain ⟨kvs, h1, h2, h3⟩ := h.ex
  exact ⟨kvs, s _ _ h1, h2, fun x => (h3 x).same fun b xs e => Wp.sameT s e⟩
/-! the steps of a text at a place -/
def fitsAt (rs : List (Str × Str)) (t : List Nat) (place : Nat) : List Nat := (List.range rs.length).filter fun k => match rs[k]? with
  | some (l, _) => (cl l).isPrefixOf (t.drop place)
  | none => false
def stepsL (rs : List (Str × Str)) (t : List Nat) : List (Nat × Nat) := (List.range t.length).flatMap fun p => (fitsAt rs t p).map fun k => (p, k)
/-- the pieces of lengths 1 to m at a place, each with its rules' numbers -/
def piecesN (rs : List (Str × Str)) (t : List Nat) (p : Nat) (m : Nat) : List Nat := (List.range m).flatMap fun s => numsOf rs (mkS ((t.drop p).take (s + 1)))
end Bk
set_option Elab.async false
set_option linter.all false
set_option maxRecDepth 100000
namespace Bk
open PySem PySem.Spec PyProof.Rows L2
/-- repr of rows of data, of a text, of a number, of None -/
def rReprU (K : PySem.W.Frag) : List V → Hp → VK → Prop := fun xs H Q => Wp.rRepr K xs H Q ∨ (∃ z, xs = [.str z] ∧ (reprText z).length ≤ sizeLine ∧ Q (.str (reprText z)) H) ∨ (∃ i, xs = [.int i] ∧ i.natAbs.log2 < 1920 ∧ Q (.str (toString i)) H) ∨ (xs = [.non] ∧ Q (.str "None") H)
theorem wc_reprU {X : Cx} {K : PySem.W.Frag} (hg : X.A.guards = some []) (hu : X.A.units + 65 < cLine) (hK : X.K = K := by rfl) : CallR X (.builtin "repr") (rReprU K) := by
  intro pins s σ H xs us Q I r h
  rcases h with h | ⟨z, rfl, hz, q⟩ | ⟨i, rfl, hz, q⟩ | ⟨rfl, q⟩
  · exact Wp.wc_repr hg hu hK pins s σ H xs us Q I r h
  · obtain ⟨u, rfl, t, rfl⟩ := vals1 r
    exact PySem.P.repr_of_str ⟨.str _, H, I.tok _, ⟨_, rfl⟩, q⟩ hz
  · obtain ⟨u, rfl, t, rfl⟩ := vals1 r
    exact PySem.P.repr_of_int hz ⟨.str _, H, I.tok _, ⟨_, rfl⟩, q⟩
  · obtain ⟨u, rfl, ru⟩ := vals1 r
    cases ru
    exact PySem.P.repr_of_none ⟨.str _, H, I.tok _, ⟨_, rfl⟩, q⟩
/-- the rules up to a number that fit at a place -/
def fitB (rs : List (Str × Str)) (t : List Nat) (p k : Nat) : Bool := match rs[k]? with
  | some (l, _) => (cl l).isPrefixOf (t.drop p)
  | none => false
def fitsTo (rs : List (Str × Str)) (t : List Nat) (p j : Nat) : List Nat := (List.range j).filter (fitB rs t p)
end Bk
set_option Elab.async false
set_option linter.all false
set_option maxRecDepth 100000
namespace Wp
open PySem PySem.Spec PyProof.Rows L2
theorem passX0 {X : Cx} : Passes (L2.CX X.prog X.w) X (fun _ _ _ => False) := fun _ _ _ _ _ _ _ h => by
  obtain ⟨_, _, _, _, _, _, _, _, _, _, _, _, z⟩ := h
  exact z.elim
theorem depthAll_le {n : Nat} : ∀ {ds : List PyData}, (∀ d ∈ ds, d.depth ≤ n) → PyData.depthAll ds ≤ n
  | [], _ => by simp [PyData.depthAll]
  | d :: ds, h => by
    rw [PyData.depthAll]
    exact Nat.max_le.mpr ⟨h d List.mem_cons_self, depthAll_le fun e he => h e (List.mem_cons_of_mem _ he)⟩
theorem canLayAll_of : ∀ {ds : List PyData}, (∀ d ∈ ds, d.canLay0 = true) → PyData.canLayAll0 ds = true
  | [], _ => by simp [PyData.canLayAll0]
  | d :: ds, h => by
    rw [PyData.canLayAll0, h d List.mem_cons_self, canLayAll_of fun e he => h e (List.mem_cons_of_mem _ he)]; rfl
theorem showableAll_of : ∀ {ds : List PyData}, (∀ d ∈ ds, d.showable = true) → PyData.showableAll ds = true
  | [], _ => by simp [PyData.showableAll]
  | d :: ds, h => by
    rw [PyData.showableAll, h d List.mem_cons_self, showableAll_of fun e he => h e (List.mem_cons_of_mem _ he)]; rfl
theorem weightAll_le {c : Nat} : ∀ {ds : List PyData}, (∀ d ∈ ds, d.weight + 1 ≤ c) → PyData.weightAll ds ≤ ds.length * c
  | [], _ => by simp [PyData.weightAll]
  | d :: ds, h => by
    have h1 := h d List.mem_cons_self
    have h2 := weightAll_le fun e he => h e (List.mem_cons_of_mem _ he)
    rw [PyData.weightAll, List.length_cons, Nat.succ_mul]
    omega
/-- small data, ready to be shown -/
structure Shw (n c : Nat) (d : PyData) : Prop where
  l : d.canLay0 = true
  s : d.showable = true
  i : d.intsShort 13 = true
  dp : d.depth ≤ n
  w : d.weight ≤ c
theorem Shw.int {i : Int} (h0 : 0 ≤ i) (h1 : i ≤ 80) : Shw 0 8 (.int i) := by
  obtain ⟨k, rfl⟩ := Int.eq_ofNat_of_zero_le h0
  have h : ∀ k : Fin 81, PyData.showable (.int ((k.val : Nat) : Int)) = true ∧ PyData.intsShort 13 (.int ((k.val : Nat) : Int)) = true ∧ PyData.weight (.int ((k.val : Nat) : Int)) ≤ 8 := by decide +kernel
  obtain ⟨a, b, c⟩ := h ⟨k, by omega⟩
  exact ⟨by simp [PyData.canLay0], a, b, by simp [PyData.depth], c⟩
theorem Shw.tup {n c : Nat} {ds : List PyData} (h : ∀ d ∈ ds, Shw n c d) : Shw (n + 1) (ds.length * (c + 1)) (.tuple ds) := by
  refine ⟨?_, ?_, ?_, ?_, ?_⟩
  · rw [PyData.canLay0]; exact canLayAll_of fun d hd => (h d hd).l
  · rw [PyData.showable]; exact showableAll_of fun d hd => (h d hd).s
  · rw [PyData.intsShort]; exact intsShortAll_of fun d hd => (h d hd).i
  · have := depthAll_le fun d hd => (h d hd).dp
    rw [PyData.depth]; omega
  · rw [PyData.weight]; exact weightAll_le fun d hd => by have := (h d hd).w; omega
theorem Shw.mono {n c m e : Nat} {d : PyData} (h : Shw n c d) (h1 : n ≤ m) (h2 : c ≤ e) : Shw m e d := ⟨h.l, h.s, h.i, Nat.le_trans h.dp h1, Nat.le_trans h.w h2⟩
theorem Shw.all {n c : Nat} {d : PyData} (h : Shw n c d) (h1 : n ≤ 60) (h2 : c ≤ 1048576) : d.showable = true ∧ d.hasDict = false ∧ d.depth ≤ 60 ∧ d.shown.length ≤ sizeLine := by
  refine ⟨h.s, PyData.hasDict_of_canLay d h.l, Nat.le_trans h.dp h1, ?_⟩
  have hd := h.dp
  have hw := h.w
  have hl : PyData.layable0 d = true := by
    unfold PyData.layable0
    rw [h.l, decide_eq_true (by omega), decide_eq_true (by omega)]; rfl
  have h3 := shown_le13 hl h.i
  have e : sizeLine = 16777216 := by decide
  omega
theorem Shw.str {z : Str} (h : PyData.strOk z = true) (hl : z.length ≤ 1000) : Shw 0 1100 (.str z) := by
  refine ⟨?_, by simp [PyData.showable], by simp [PyData.intsShort], by simp [PyData.depth], ?_⟩
  · rw [PyData.canLay0]; exact h
  · rw [PyData.weight]
    have : z.cps.size = z.length := rfl
    omega
theorem Shw.lst {n c : Nat} {ds : List PyData} (h : ∀ d ∈ ds, Shw n c d) : Shw (n + 1) (ds.length * (c + 1)) (.list ds) := by
  refine ⟨?_, ?_, ?_, ?_, ?_⟩
  · rw [PyData.canLay0]; exact canLayAll_of fun d hd => (h d hd).l
  · rw [PyData.showable]; exact showableAll_of fun d hd => (h d hd).s
  · rw [PyData.intsShort]; exact intsShortAll_of fun d hd => (h d hd).i
  · have := depthAll_le fun d hd => (h d hd).dp
    rw [PyData.depth]; omega
  · rw [PyData.weight]; exact weightAll_le fun d hd => by have := (h d hd).w; omega
theorem make_ {C : Addr} {sp : Sp} {dvs : List V} {E : XK} {t : TA} {σ : L2.St} {H : Hp} {Q : VK} (h : t σ H fun vs H1 => ∀ x dx, H1 x = none → H1 dx = none → dx ≠ x → sp (.ref x :: (vs ++ dvs)) (upd (upd H1 dx (.own x)) x (.ins C dx [])) (fun v H2 => v = .non ∧ Q (.ref x) H2) E) : tMake C sp dvs E t σ H Q := h
end Wp
set_option Elab.async false
set_option linter.all false
set_option maxRecDepth 100000
namespace Bk
open PySem PySem.Spec PyProof.Rows L2
/-! the first rule that fits a pile: the least number among the left sides that end it -/
theorem firstFrom_le {x y : Str} : ∀ {rs : List (Str × Str)} {i j : Nat}, rs[j]? = some (x, y) → ∃ n r, firstFrom i rs x = some (n, r) ∧ n ≤ i + j
  | [], _, _, h => by simp at h
  | (a, b) :: rs, i, j, h => by
    show ∃ n r, (if a = x then some (i, b) else firstFrom (i + 1) rs x) = some (n, r) ∧ n ≤ i + j
    by_cases e : a = x
    · rw [if_pos e]; exact ⟨_, _, rfl, by omega⟩
    · rw [if_neg e]
      cases j with
      | zero =>
        simp at h
        exact absurd h.1 e
      | succ j =>
        obtain ⟨n, r, h1, h2⟩ := firstFrom_le (i := i + 1) (j := j) (rs := rs) (x := x) (y := y) (by simpa using h)
        exact ⟨n, r, h1, by omega⟩
theorem step_le {rs : List (Str × Str)} {tail : List Nat} {k : Nat} {b : Option (Nat × Str × Str)} : (∀ n0 x0, b = some (n0, x0) → ∃ n x, stepFit rs tail b k = some (n, x) ∧ n ≤ n0) ∧
    ∀ m y, firstOf rs (mkS (tail.drop k)) = some (m, y) → ∃ n x, stepFit rs tail b k = some (n, x) ∧ n ≤ m := by
  unfold stepFit
  cases hf : firstOf rs (mkS (tail.drop k)) with
  | none => exact ⟨fun n0 x0 e => ⟨n0, x0, e, Nat.le_refl _⟩, fun m y e => (nomatch e)⟩
  | some q =>
    obtain ⟨m0, y0⟩ := q
    cases b with
    | none => exact ⟨fun n0 x0 e => (nomatch e), fun m y e => (by cases e; exact ⟨_, _, rfl, Nat.le_refl _⟩)⟩
    | some q =>
      obtain ⟨m2, x2, y2⟩ := q
      simp only
      by_cases h : m0 < m2
      · rw [if_pos h]
        exact ⟨fun n0 x0 e => (by cases e; exact ⟨_, _, rfl, by omega⟩), fun m y e => (by cases e; exact ⟨_, _, rfl, Nat.le_refl _⟩)⟩
      · rw [if_neg h]
        exact ⟨fun n0 x0 e => (by cases e; exact ⟨_, _, rfl, Nat.le_refl _⟩), fun m y e => (by cases e; exact ⟨_, _, rfl, by omega⟩)⟩
theorem fold_le {rs : List (Str × Str)} {tail : List Nat} : ∀ (ks : List Nat) (b : Option (Nat × Str × Str)), (∀ n0 x0, b = some (n0, x0) → ∃ n x, ks.foldl (stepFit rs tail) b = some (n, x) ∧ n ≤ n0) ∧
    ∀ k ∈ ks, ∀ m y, firstOf rs (mkS (tail.drop k)) = some (m, y) → ∃ n x, ks.foldl (stepFit rs tail) b = some (n, x) ∧ n ≤ m
  | [], b => ⟨fun n0 x0 e => ⟨n0, x0, e, Nat.le_refl _⟩, fun k hk => by cases hk⟩
  | k :: ks, b => by
    obtain ⟨h1, h2⟩ := fold_le (rs := rs) (tail := tail) ks (stepFit rs tail b k)
    obtain ⟨s1, s2⟩ := step_le (rs := rs) (tail := tail) (k := k) (b := b)
    refine ⟨fun n0 x0 e => ?_, fun k' hk' m y e => ?_⟩
    · obtain ⟨n, x, e1, l1⟩ := s1 _ _ e
      obtain ⟨n2, x2, e2, l2⟩ := h1 _ _ e1
      exact ⟨n2, x2, e2, by omega⟩
    · rcases List.mem_cons.mp hk' with rfl | hk'
      · obtain ⟨n, x, e1, l1⟩ := s2 _ _ e
        obtain ⟨n2, x2, e2, l2⟩ := h1 _ _ e1
        exact ⟨n2, x2, e2, by omega⟩
      · exact h2 _ hk' _ _ e
/-- whether a text ends a pile -/
def ends (p : List Nat) (l : Str) : Bool := decide (l.length ≤ p.length ∧ p.drop (p.length - l.length) = cl l)
theorem fit_ends {rs : List (Str × Str)} (g : Good rs) {p : List Nat} {n : Nat} {l r : Str} (h : fit rs (last4 p) = some (n, l, r)) : rs[n]? = some (l, r) ∧ ends p l = true := by
  obtain ⟨h1, k, h2⟩ := fit_ok h
  obtain ⟨_, _, _, _, h3⟩ := fit_len g h
  refine ⟨h1, decide_eq_true ⟨h3, ?_⟩⟩
  have e := congrArg List.length h2
  rw [len_cl, List.length_drop, List.length_drop] at e
  rw [h2, List.drop_drop]
  congr 1
  omega
theorem fit_first {rs : List (Str × Str)} (g : Good rs) {p : List Nat} {m : Nat} {l r : Str} (h : rs[m]? = some (l, r)) (he : ends p l = true) : ∃ n x, fit rs (last4 p) = some (n, x) ∧ n ≤ m := by
  obtain ⟨a1, a2, a3⟩ := g _ (List.mem_of_getElem? h)
  simp only at a1 a2 a3
  obtain ⟨h1, h2⟩ := of_decide_eq_true he
  have hl4 : (last4 p).length = p.length - (p.length - 4) := List.length_drop
  have hd : (last4 p).drop ((last4 p).length - l.length) = cl l := by
    rw [← h2, hl4, List.drop_drop]
    congr 1
    omega
  obtain ⟨n, y, e, le⟩ := firstFrom_le (i := 0) h
  refine (fold_le (rs := rs) (tail := last4 p) (List.range (last4 p).length) none).2 ((last4 p).length - l.length) (List.mem_range.mpr (by omega)) n y (by rw [hd, mk_cl]; exact e) |>.elim fun n2 h => h.elim fun x2 h => ⟨n2, x2, h.1, by omega⟩
theorem find_first {α : Type} {P : α → Bool} {q : α} : ∀ {l : List α} {n : Nat}, l[n]? = some q → P q = true → (∀ m q', m < n → l[m]? = some q' → P q' = false) → (l.filter P).head? = some q
  | [], _, h, _, _ => by simp at h
  | a :: l, n, h, hq, hm => by
    cases n with
    | zero =>
      simp at h; subst h
      rw [List.filter_cons_of_pos hq]; rfl
    | succ n =>
      rw [List.filter_cons_of_neg (by rw [hm 0 a (by omega) rfl]; simp)]
      exact find_first (l := l) (n := n) (by simpa using h) hq fun m q' hlt e => hm (m + 1) q' (by omega) (by simpa using e)
theorem ends_eq (a b : Str) : Txt.endswith a b = ends (cl a) b := by
  have ha := len_cl a
  have hb := len_cl b
  show (decide (0 + b.length ≤ a.length) && (a.cps.extract (a.length - b.length) (a.length - b.length + b.length) == b.cps)) = ends (cl a) b
  unfold ends
  rw [Bool.eq_iff_iff, Bool.and_eq_true, decide_eq_true_iff, decide_eq_true_iff, beq_iff_eq, Nat.zero_add, ha]
  refine and_congr_right fun h => ?_
  have e : (a.cps.extract (a.length - b.length) (a.length - b.length + b.length)).toList = (cl a).drop (a.length - b.length) := by
    rw [Array.toList_extract, show a.length - b.length + b.length = a.length by omega]
    show ((cl a).drop (a.length - b.length)).take (a.length - (a.length - b.length)) = _
    rw [List.take_of_length_le (by rw [List.length_drop]; omega)]
  rw [← e]
  exact ⟨fun h => by rw [h], fun h => Array.toList_inj.mp h⟩
/-- a while over the truth of a list -/
theorem whileL {K : PySem.W.Frag} {i : Nat} {tb : TS} {D : Ends} {σ : L2.St} {H : Hp} (Pv : L2.St → Hp → Prop) (μ : L2.St → Hp → Nat) (h0 : Pv σ H)
    (hs : ∀ σ H, Pv σ H → ∃ p xs, σ[i]? = some (some (.ref p)) ∧ SqL K H p xs ∧ if (!xs.isEmpty) = true then tb { D with nx := fun σ' H' => Pv σ' H' ∧ μ σ' H' < μ σ H, ct := fun σ' H' => Pv σ' H' ∧ μ σ' H' < μ σ H, bk := D.nx } σ H else D.nx σ H) : tWhile (Wp.tTru K (tVar i)) tb D σ H := by
  refine while_by Pv μ h0 (fun σ H p => ?_) (fun σ H Q Q' hq h => ?_)
  · obtain ⟨p, xs, e, s, h⟩ := hs σ H p
    exact ⟨.ref p, e, _, .inl ⟨xs, s, rfl⟩, h⟩
  · obtain ⟨v, e, k, t, q⟩ := h
    exact ⟨v, e, k, t, hq _ _ q⟩
/-- the places of the rules that fit a pile -/
def fitL (rs : List (Str × Str)) (bs : List Addr) (p : List Nat) : List Addr := ((rs.zip bs).filter fun q => ends p q.1.1).map (·.2)
theorem fitL_none {rs : List (Str × Str)} {bs : List Addr} {p : List Nat} (g : Good rs) (h : fit rs (last4 p) = none) : fitL rs bs p = [] := by
  unfold fitL
  rw [List.map_eq_nil_iff, List.filter_eq_nil_iff]
  intro q hq he
  obtain ⟨m, hm, e⟩ := List.getElem_of_mem (List.of_mem_zip (show (q.1, q.2) ∈ rs.zip bs from hq)).1
  obtain ⟨n, x, e2, _⟩ := fit_first g (p := p) (m := m) (l := q.1.1) (r := q.1.2) (by rw [List.getElem?_eq_getElem hm, e]) he
  rw [h] at e2; cases e2
theorem fitL_some {rs : List (Str × Str)} {bs : List Addr} {p : List Nat} {n : Nat} {l r : Str} (g : Good rs) (hl : bs.length = rs.length) (h : fit rs (last4 p) = some (n, l, r)) : ∃ b t, fitL rs bs p = b :: t ∧ bs[n]? = some b ∧ rs[n]? = some (l, r) := by
  obtain ⟨h1, h2⟩ := fit_ends g h
  have hn := (List.getElem?_eq_some_iff.mp h1).1
  have hb := List.getElem?_eq_getElem (show n < bs.length by omega)
  have hz : (rs.zip bs)[n]? = some ((l, r), bs[n]) := List.getElem?_zip_eq_some.mpr ⟨h1, hb⟩
  have hd := find_first (P := fun q : (Str × Str) × Addr => ends p q.1.1) hz h2 fun m q' hlt e => by
    cases hc : ends p q'.1.1 with
    | false => rfl
    | true =>
      obtain ⟨n2, x2, e2, le⟩ := fit_first g (p := p) (m := m) (l := q'.1.1) (r := q'.1.2) (List.getElem?_zip_eq_some.mp e).1 hc
      rw [h] at e2; cases e2
      omega
  unfold fitL
  cases hf : (rs.zip bs).filter fun q => ends p q.1.1 with
  | nil => rw [hf] at hd; cases hd
  | cons a t =>
    rw [hf] at hd
    cases hd
    exact ⟨_, _, rfl, hb, h1⟩
theorem fitL_le {rs : List (Str × Str)} {bs : List Addr} {p : List Nat} (i : Nat) : (fitL (rs.take i) (bs.take i) p).length ≤ i := by
  unfold fitL
  rw [List.length_map]
  refine Nat.le_trans (List.length_filter_le _ _) ?_
  rw [List.length_zip, List.length_take]
  omega
theorem fitL_succ {rs : List (Str × Str)} {bs : List Addr} {p : List Nat} {i : Nat} {l r : Str} {b : Addr} (h : rs[i]? = some (l, r)) (hb : bs[i]? = some b) : fitL (rs.take (i + 1)) (bs.take (i + 1)) p = fitL (rs.take i) (bs.take i) p ++ if ends p l = true then [b] else [] := by
  have hi := (List.getElem?_eq_some_iff.mp h).1
  have hj := (List.getElem?_eq_some_iff.mp hb).1
  unfold fitL
  rw [List.take_add_one, List.take_add_one, h, hb]
  show ((((rs.take i) ++ [(l, r)]).zip ((bs.take i) ++ [b])).filter _).map _ = _
  rw [List.zip_append (by rw [List.length_take, List.length_take]; omega), List.filter_append, List.map_append]
  congr 1
  by_cases e : ends p l = true
  · rw [if_pos e]; simp [e]
  · rw [if_neg e]; simp [e]
/-- what is a list or a tuple, walked through -/
def iU (K : PySem.W.Frag) (tl : TE) : TI := fun σ H R => iList K tl σ H R ∨ iTup K tl σ H R
theorem wi_u {X : Cx} {tg l : Expr} {tl : TE} {K : PySem.W.Frag} (hl : PE X l tl) (hK : X.K = K := by rfl) : PI X tg l (iU K tl) := by
  subst hK
  exact ⟨fun pins s σ H R I h => h.elim ((pi_list hl).run pins s σ H R I) ((pi_tup hl).run pins s σ H R I)⟩
/-- the elements of a list or of a tuple -/
def RowAt (H : Hp) (t : Addr) (xs : List V) : Prop := H t = some (.lst xs) ∨ H t = some (.tup xs)
theorem RowAt.same {H H' : Hp} {t : Addr} {xs : List V} (h : RowAt H t xs) (s : Same H H') : RowAt H' t xs := h.imp (s _ _) (s _ _)
end Bk
set_option Elab.async false
set_option linter.all false
set_option maxRecDepth 100000
namespace Bk
open PySem PySem.Spec PyProof.Rows L2
/-! the very list of overlaps, in the order in which the program finds them -/
def ovStart (i j : Nat) : Nat := if i < j then 0 else 1
def ovAt (i j : Nat) (l l2 : Str) (k : Nat) : List Ov := match ovText l (k : Nat) l2 with
  | some z => [(z, i, k, j)]
  | none => []
def ovCellTo (i j : Nat) (l l2 : Str) (k : Nat) : List Ov := (List.range k).flatMap fun m => ovAt i j l l2 (ovStart i j + m)
theorem ovCellTo_none {i j : Nat} {l l2 : Str} {k : Nat} (h : ovText l ((ovStart i j + k : Nat) : Int) l2 = none) : ovCellTo i j l l2 (k + 1) = ovCellTo i j l l2 k ++ [] := by
  unfold ovCellTo
  rw [List.range_succ, List.flatMap_append]
  congr 1
  show ovAt i j l l2 (ovStart i j + k) ++ [] = _
  unfold ovAt
  rw [h]; rfl
theorem ovCellTo_some {i j : Nat} {l l2 z : Str} {k : Nat} (h : ovText l ((ovStart i j + k : Nat) : Int) l2 = some z) : ovCellTo i j l l2 (k + 1) = ovCellTo i j l l2 k ++ [(z, i, ovStart i j + k, j)] := by
  unfold ovCellTo
  rw [List.range_succ, List.flatMap_append]
  congr 1
  show ovAt i j l l2 (ovStart i j + k) ++ [] = _
  unfold ovAt
  rw [h]; rfl
def lf (rs : List (Str × Str)) (i : Nat) : Str := match rs[i]? with
  | some p => p.1
  | none => ""
theorem lf_of {rs : List (Str × Str)} {i : Nat} {l r : Str} (h : rs[i]? = some (l, r)) : lf rs i = l := by unfold lf; rw [h]
def ovCell (rs : List (Str × Str)) (i j : Nat) : List Ov := ovCellTo i j (lf rs i) (lf rs j) ((lf rs i).length - ovStart i j)
def ovRowTo (rs : List (Str × Str)) (i j : Nat) : List Ov := (List.range j).flatMap (ovCell rs i)
def ovTo (rs : List (Str × Str)) (i : Nat) : List Ov := (List.range i).flatMap fun m => ovRowTo rs m rs.length
def ovAll (rs : List (Str × Str)) : List Ov := ovTo rs rs.length
theorem ovRowTo_succ {rs : List (Str × Str)} {i j : Nat} {l r l2 r2 : Str} (h : rs[i]? = some (l, r)) (h2 : rs[j]? = some (l2, r2)) : ovRowTo rs i (j + 1) = ovRowTo rs i j ++ ovCellTo i j l l2 (l.length - ovStart i j) := by
  unfold ovRowTo
  rw [List.range_succ, List.flatMap_append]
  congr 1
  simp [ovCell, lf_of h, lf_of h2]
theorem ovTo_succ {rs : List (Str × Str)} {i : Nat} : ovTo rs (i + 1) = ovTo rs i ++ ovRowTo rs i rs.length := by
  unfold ovTo
  rw [List.range_succ, List.flatMap_append]
  congr 1
  simp
structure FoundE (K : PySem.W.Frag) (H : Hp) (F : Addr) (n : Nat) (os : List Ov) (m : Nat) : Prop where
  ex : ∃ ws : List V, H F = some (.lst ws) ∧ DpAll K H ws (os.map ov5) ∧ (∀ o ∈ os, ovOk n o) ∧ os.length ≤ m
theorem FoundE.same {K : PySem.W.Frag} {H H' : Hp} {F : Addr} {n m : Nat} {os : List Ov} (s : Same H H') (h : FoundE K H F n os m) : FoundE K H' F n os m := by
  obtain ⟨ws, h1, h2, h3, h4⟩ := h.ex
  exact ⟨ws, s _ _ h1, Wp.dps_same s _ _ h2, h3, h4⟩
theorem FoundE.mono {K : PySem.W.Frag} {H : Hp} {F : Addr} {n m m' : Nat} {os : List Ov} (h : FoundE K H F n os m) (l : m ≤ m') : FoundE K H F n os m' := by
  obtain ⟨ws, h1, h2, h3, h4⟩ := h.ex
  exact ⟨ws, h1, h2, h3, Nat.le_trans h4 l⟩
theorem FoundE.push {K : PySem.W.Frag} {H : Hp} {F T : Addr} {n m : Nat} {ws : List V} {os : List Ov} {o : Ov} (h1 : H F = some (.lst ws)) (h2 : DpAll K H ws (os.map ov5)) (h3 : ∀ o ∈ os, ovOk n o) (h4 : os.length ≤ m) (ho : ovOk n o) (hT : Dp K H (.ref T) (ov5 o)) :
    FoundE K (upd H F (.lst (ws ++ [.ref T]))) F n (os ++ [o]) (m + 1) := by
  refine ⟨⟨ws ++ [V.ref T], upd_same, ?_, fun x hx => ?_, by rw [List.length_append]; simp; omega⟩⟩
  · rw [List.map_append]
    exact Wp.dps_append (Wp.dps_upd h1 _ _ (ov5s_no os) h2) (.cons (Wp.dp_upd h1 _ _ (ov5_no o) hT) .nil)
  · rcases List.mem_append.mp hx with z | z
    · exact h3 x z
    · rw [List.mem_singleton.mp z]; exact ho
/-- an overlap out of its row -/
def dec5 : PyData → Ov
  | .tuple [.int _, .str z, .int i, .int p, .int j] => (z, i.toNat, p.toNat, j.toNat)
  | _ => ("", 0, 0, 0)
theorem dec5_ov5 (o : Ov) : dec5 (ov5 o) = o := by
  obtain ⟨z, i, p, j⟩ := o
  simp [dec5, ov5]
/-- the same overlaps in the order of their rows -/
structure OvSorted (os all : List Ov) : Prop where
  perm : os.Perm all
  sorted : ∃ ws : List V, ws.length = all.length ∧ os.map ov5 = ((ws.zip (all.map ov5)).mergeSort (PySem.W.dataLe false Prod.snd)).map Prod.snd
theorem OvSorted.of {ws : List V} {all : List Ov} {zs : List (V × PyData)} (hl : ws.length = all.length) (hp : zs.Perm (ws.zip (all.map ov5))) (hz : zs = (ws.zip (all.map ov5)).mergeSort (PySem.W.dataLe false Prod.snd)) :
    OvSorted (zs.map fun q => dec5 q.2) all ∧ (zs.map fun q => dec5 q.2).map ov5 = zs.map Prod.snd := by
  have hm : ∀ q ∈ zs, ov5 (dec5 q.2) = q.2 := fun q hq => by
    have h1 := hp.mem_iff.mp hq
    obtain ⟨o, _, e⟩ := List.mem_map.mp (List.of_mem_zip (show (q.1, q.2) ∈ ws.zip (all.map ov5) from h1)).2
    rw [← e, dec5_ov5]
  have he : (zs.map fun q => dec5 q.2).map ov5 = zs.map Prod.snd := by
    rw [List.map_map]
    exact List.map_congr_left hm
  refine ⟨⟨?_, ws, hl, by rw [he, ← hz]⟩, he⟩
  refine (hp.map _).trans ?_
  have e2 : (ws.zip (all.map ov5)).map (fun q => dec5 q.2) = all := by
    have : ((ws.zip (all.map ov5)).map Prod.snd).map dec5 = all := by
      rw [List.map_snd_zip (by rw [List.length_map]; omega), List.map_map]
      exact (List.map_congr_left (g := id) fun o _ => dec5_ov5 o).trans (List.map_id _)
    rwa [List.map_map] at this
  rw [e2]
/-- overlaps told as tuples -/
structure OvsAt (H : Hp) (ws : List V) (os : List Ov) : Prop where
  len : ws.length = os.length
  at_ : ∀ (i : Nat) (o : Ov), os[i]? = some o → ∃ T : Addr, ws[i]? = some (V.ref T) ∧ H T = some (.tup [.str o.1, .int (o.2.1 : Nat), .int (o.2.2.1 : Nat), .int (o.2.2.2 : Nat)])
theorem flat_len {α β : Type} {f : α → List β} {c : Nat} : ∀ (l : List α), (∀ x ∈ l, (f x).length ≤ c) → (l.flatMap f).length ≤ l.length * c
  | [], _ => by simp
  | a :: l, h => by
    rw [List.flatMap_cons, List.length_append, List.length_cons, Nat.succ_mul]
    have := flat_len l fun x hx => h x (List.mem_cons_of_mem _ hx)
    have := h a (List.mem_cons_self ..)
    omega
theorem ovAt_len (i j : Nat) (l l2 : Str) (k : Nat) : (ovAt i j l l2 k).length ≤ 1 := by
  unfold ovAt
  split
  · exact Nat.le_refl _
  · exact Nat.zero_le _
theorem ovAll_len {rs : List (Str × Str)} (g : ∀ i, (lf rs i).length ≤ 4) (h : rs.length ≤ 64) : (ovAll rs).length ≤ 20000 := by
  have h1 : ∀ i j, (ovCell rs i j).length ≤ 4 := fun i j => by
    refine Nat.le_trans (flat_len (c := 1) _ fun m _ => ovAt_len _ _ _ _ _) ?_
    have := g i
    rw [List.length_range]; omega
  have h2 : ∀ i, (ovRowTo rs i rs.length).length ≤ 256 := fun i => by
    refine Nat.le_trans (flat_len (c := 4) _ fun m _ => h1 i m) ?_
    rw [List.length_range]; omega
  refine Nat.le_trans (flat_len (c := 256) _ fun m _ => h2 m) ?_
  rw [List.length_range]; omega
theorem lf_len {rs : List (Str × Str)} (g : Good rs) (i : Nat) : (lf rs i).length ≤ 4 := by
  unfold lf
  cases h : rs[i]? with
  | none => exact Nat.zero_le _
  | some p => exact (g _ (List.mem_of_getElem? h)).1
theorem ovs_few {rs : List (Str × Str)} {os : List Ov} (h : OvSorted os (ovAll rs)) (hl : rs.length ≤ 64) (g : Good rs) : os.length ≤ 20000 := by
  rw [h.perm.length_eq]
  exact ovAll_len (lf_len g) hl
end Bk
set_option linter.all false
namespace Cf
/-! texts that shrink by rules: if the overlaps meet, what is left over does not hang on the way -/
section
variable (R : List Nat → List Nat → Prop)
def Step (u v : List Nat) : Prop := ∃ x l r y, R l r ∧ u = x ++ l ++ y ∧ v = x ++ r ++ y
inductive Star : List Nat → List Nat → Prop
  | refl (u) : Star u u
  | head {u v w} : Step R u v → Star v w → Star u w
end
variable {R : List Nat → List Nat → Prop}
theorem Star.trans {u v w : List Nat} (h : Star R u v) (k : Star R v w) : Star R u w := by
  induction h with
  | refl u => exact k
  | head s _ ih => exact .head s (ih k)
theorem Star.one {u v : List Nat} (h : Step R u v) : Star R u v := .head h (.refl _)
theorem Step.ctx {u v : List Nat} (x y : List Nat) (h : Step R u v) : Step R (x ++ u ++ y) (x ++ v ++ y) := by
  obtain ⟨a, l, r, b, h1, rfl, rfl⟩ := h
  exact ⟨x ++ a, l, r, b ++ y, h1, by simp, by simp⟩
theorem Star.ctx {u v : List Nat} (x y : List Nat) (h : Star R u v) : Star R (x ++ u ++ y) (x ++ v ++ y) := by
  induction h with
  | refl u => exact .refl _
  | head s _ ih => exact .head (s.ctx x y) ih
def Short (R : List Nat → List Nat → Prop) : Prop := ∀ l r, R l r → r.length < l.length
theorem Step.lt (g : Short R) {u v : List Nat} (h : Step R u v) : v.length < u.length := by
  obtain ⟨a, l, r, b, h1, rfl, rfl⟩ := h
  have := g _ _ h1
  simp; omega
theorem Star.le (g : Short R) {u v : List Nat} (h : Star R u v) : v.length ≤ u.length := by
  induction h with
  | refl u => exact Nat.le_refl _
  | head s _ ih => have := s.lt g; omega
/-- what is left over, as a reader tells it -/
structure Nf (R : List Nat → List Nat → Prop) (nf : List Nat → List Nat) : Prop where
  short : Short R
  star : ∀ u, Star R u (nf u)
  stop : ∀ u v, ¬ Step R (nf u) v
theorem Nf.fix {nf : List Nat → List Nat} (N : Nf R nf) {u : List Nat} (h : ∀ v, ¬ Step R u v) : nf u = u := by
  have s := N.star u
  generalize nf u = w at s
  cases s with
  | refl => rfl
  | head s _ => exact absurd s (h _)
theorem Nf.nf_nf {nf : List Nat → List Nat} (N : Nf R nf) (u : List Nat) : nf (nf u) = nf u := N.fix (N.stop u)
structure Meets (R : List Nat → List Nat → Prop) (nf : List Nat → List Nat) : Prop where
  over : ∀ l1 r1 l2 r2 a b c, R l1 r1 → R l2 r2 → b ≠ [] → l1 = a ++ b → l2 = b ++ c → nf (r1 ++ c) = nf (a ++ r2)
  inside : ∀ l1 r1 l2 r2 a c, R l1 r1 → R l2 r2 → l1 = a ++ l2 ++ c → nf r1 = nf (a ++ r2 ++ c)
/-- two splits of one text -/
theorem split2 {a b c d : List Nat} (h : a ++ b = c ++ d) : (∃ e, c = a ++ e ∧ b = e ++ d) ∨ ∃ e, a = c ++ e ∧ d = e ++ b :=
  (List.append_eq_append_iff.mp h).imp (fun ⟨e, h1, h2⟩ => ⟨e, h1, h2⟩) fun ⟨e, h1, h2⟩ => ⟨e, h1, h2⟩
theorem Nf.main {nf : List Nat → List Nat} (N : Nf R nf) (M : Meets R nf) : ∀ n u v, u.length ≤ n → Step R u v → nf u = nf v := by
  intro n
  induction n with
  | zero => intro u v h s; have := s.lt N.short; omega
  | succ n ih =>
    have star_eq : ∀ {u v : List Nat}, u.length ≤ n → Star R u v → nf u = nf v := by
      intro u v h s
      induction s with
      | refl => rfl
      | head s t ih2 => exact (ih _ _ h s).trans (ih2 (by have := s.lt N.short; omega))
    -- two steps of one text, the one not behind the other one
    have pair : ∀ (x1 l1 r1 y1 x2 l2 r2 y2 : List Nat), R l1 r1 → R l2 r2 → (x1 ++ l1 ++ y1).length ≤ n + 1 → x1 ++ l1 ++ y1 = x2 ++ l2 ++ y2 → (∃ e, x2 = x1 ++ e) → nf (x1 ++ r1 ++ y1) = nf (x2 ++ r2 ++ y2) := by
      rintro x1 l1 r1 y1 x2 l2 r2 y2 h1 h2 hl e ⟨d, rfl⟩
      have s1 := N.short _ _ h1
      have s2 := N.short _ _ h2
      have e' : l1 ++ y1 = d ++ l2 ++ y2 := by
        rw [List.append_assoc, List.append_assoc, List.append_assoc] at e
        rw [List.append_assoc]; exact List.append_cancel_left e
      have join : ∀ (o o1 o2 x y : List Nat), Step R o o1 → Step R o o2 → nf o1 = nf o2 → (x ++ o ++ y).length ≤ n + 1 → nf (x ++ o1 ++ y) = nf (x ++ o2 ++ y) := by
        intro o o1 o2 x y k1 k2 e hl
        have l1 := k1.lt N.short
        have l2 := k2.lt N.short
        simp at hl
        have a1 := star_eq (u := x ++ o1 ++ y) (by simp; omega) ((N.star o1).ctx x y)
        have a2 := star_eq (u := x ++ o2 ++ y) (by simp; omega) ((N.star o2).ctx x y)
        rw [a1, a2, e]
      rcases split2 (show l1 ++ y1 = d ++ (l2 ++ y2) by rw [e', List.append_assoc]) with ⟨b, rfl, hb⟩ | ⟨b, rfl, hb⟩
      · -- apart
        subst hb
        have z1 : Step R (x1 ++ r1 ++ (b ++ l2 ++ y2)) (x1 ++ r1 ++ (b ++ r2 ++ y2)) := ⟨x1 ++ r1 ++ b, l2, r2, y2, h2, by simp, by simp⟩
        have z2 : Step R (x1 ++ (l1 ++ b) ++ r2 ++ y2) (x1 ++ r1 ++ (b ++ r2 ++ y2)) := ⟨x1, l1, r1, b ++ r2 ++ y2, h1, by simp, by simp⟩
        simp at hl
        have q1 := ih _ _ (by simp; omega) z1
        have q2 := ih _ _ (by simp; omega) z2
        rw [show x1 ++ r1 ++ (b ++ (l2 ++ y2)) = x1 ++ r1 ++ (b ++ l2 ++ y2) by simp, q1, q2]
      · -- they touch, or not at all
        by_cases hb0 : b = []
        · subst hb0
          simp at hb
          have z1 : Step R (x1 ++ r1 ++ (l2 ++ y2)) (x1 ++ r1 ++ (r2 ++ y2)) := ⟨x1 ++ r1, l2, r2, y2, h2, by simp, by simp⟩
          have z2 : Step R (x1 ++ d ++ r2 ++ y2) (x1 ++ r1 ++ (r2 ++ y2)) := ⟨x1, d, r1, r2 ++ y2, by simpa using h1, by simp, by simp⟩
          simp at hl
          have q1 := ih _ _ (by simp; rw [← hb] at hl; simp at hl; simp at s1; omega) z1
          have q2 := ih _ _ (by simp; rw [← hb] at hl; simp at hl; omega) z2
          rw [← hb, q1, q2]
        · rcases split2 hb with ⟨c, rfl, hc⟩ | ⟨c, rfl, hc⟩
          · -- the other one lies within the one
            subst hc
            have k1 : Step R (d ++ (l2 ++ c)) r1 := ⟨[], d ++ (l2 ++ c), r1, [], h1, by simp, by simp⟩
            have k2 : Step R (d ++ (l2 ++ c)) (d ++ r2 ++ c) := ⟨d, l2, r2, c, h2, by simp, by simp⟩
            have m := M.inside _ _ _ _ d c h1 h2 (by simp)
            have := join _ _ _ x1 y1 k1 k2 m hl
            rw [this]
            simp
          · subst hc
            have k1 : Step R (d ++ (b ++ c)) (r1 ++ c) := ⟨[], d ++ b, r1, c, h1, by simp, by simp⟩
            have k2 : Step R (d ++ (b ++ c)) (d ++ r2) := ⟨d, b ++ c, r2, [], h2, by simp, by simp⟩
            have m := M.over _ _ _ _ d b c h1 h2 hb0 rfl rfl
            have := join _ _ _ x1 y2 k1 k2 m (by simp at hl ⊢; omega)
            simp at this ⊢
            exact this
    have pair' : ∀ u v w, u.length ≤ n + 1 → Step R u v → Step R u w → nf v = nf w := by
      rintro u v w hu ⟨x1, l1, r1, y1, h1, rfl, rfl⟩ ⟨x2, l2, r2, y2, h2, e, rfl⟩
      rcases split2 (show x1 ++ (l1 ++ y1) = x2 ++ (l2 ++ y2) by simpa using e) with ⟨d, hd, _⟩ | ⟨d, hd, _⟩
      · exact pair _ _ _ _ _ _ _ _ h1 h2 hu e ⟨d, hd⟩
      · exact (pair _ _ _ _ _ _ _ _ h2 h1 (by rw [← e]; exact hu) e.symm ⟨d, hd⟩).symm
    intro u v hu s
    have hs := N.star u
    have hn := N.nf_nf u
    generalize ht : nf u = t at hs hn
    cases hs with
    | refl => exact absurd s fun s => N.stop u v (by rw [ht]; exact s)
    | head s0 t0 =>
      have e1 := pair' _ _ _ hu s s0
      have e2 := star_eq (by have := s0.lt N.short; omega) t0
      rw [e1, e2, hn]
theorem Nf.step {nf : List Nat → List Nat} (N : Nf R nf) (M : Meets R nf) {u v : List Nat} (h : Step R u v) : nf u = nf v := N.main M _ _ _ (Nat.le_refl _) h
theorem Nf.steps {nf : List Nat → List Nat} (N : Nf R nf) (M : Meets R nf) {u v : List Nat} (h : Star R u v) : nf u = nf v := by
  induction h with
  | refl => rfl
  | head s _ ih => exact (N.step M s).trans ih
/-- pieces may be shrunk ahead -/
theorem Nf.ctx {nf : List Nat → List Nat} (N : Nf R nf) (M : Meets R nf) (x y u : List Nat) : nf (x ++ nf u ++ y) = nf (x ++ u ++ y) := (N.steps M ((N.star u).ctx x y)).symm
theorem Nf.cong {nf : List Nat → List Nat} (N : Nf R nf) (M : Meets R nf) {u v : List Nat} (x y : List Nat) (h : nf u = nf v) : nf (x ++ u ++ y) = nf (x ++ v ++ y) := by
  rw [← N.ctx M x y u, h, N.ctx M x y v]
theorem Nf.app {nf : List Nat → List Nat} (N : Nf R nf) (M : Meets R nf) {u v u' v' : List Nat} (h : nf u = nf v) (h' : nf u' = nf v') : nf (u ++ u') = nf (v ++ v') := by
  have a := N.cong M [] u' h
  have b := N.cong M v [] h'
  simp at a b
  exact a.trans b
/-- an end of a text is what is left over of it -/
theorem Nf.only {nf : List Nat → List Nat} (N : Nf R nf) (M : Meets R nf) {u v : List Nat} (h : Star R u v) (hv : ∀ w, ¬ Step R v w) : v = nf u := by
  rw [N.steps M h, N.fix hv]
/-- where one settled book says all rules of another one, equal ends there give equal ends here -/
theorem Nf.says {R' : List Nat → List Nat → Prop} {nf nf' : List Nat → List Nat} (N : Nf R nf) (M : Meets R nf) (N' : Nf R' nf') (h : ∀ l r, R' l r → nf l = nf r) (u : List Nat) : nf (nf' u) = nf u := by
  have := N'.star u
  generalize nf' u = t at this
  induction this with
  | refl => rfl
  | head s _ ih =>
    rw [ih]
    obtain ⟨x, l, r, y, h1, rfl, rfl⟩ := s
    exact (N.cong M x y (h l r h1)).symm
end Cf
set_option Elab.async false
set_option linter.all false
set_option maxRecDepth 100000
namespace Bk
open PySem PySem.Spec PyProof.Rows L2 Cf
/-! the pile tells an end; in a settled book it is the only one -/
/-- the rules as rows of signs -/
def RR (rs : List (Str × Str)) (l r : List Nat) : Prop := ∃ p ∈ rs, cl p.1 = l ∧ cl p.2 = r
abbrev Irr (rs : List (Str × Str)) (p : List Nat) : Prop := ∀ v, ¬ Step (RR rs) p v
theorem irr_pre {rs : List (Str × Str)} {a b : List Nat} (h : Irr rs (a ++ b)) : Irr rs a := fun v s => by
  have := s.ctx [] b
  simp at this
  exact h _ this
theorem rr_short {rs : List (Str × Str)} (g : Good rs) : Short (RR rs) := fun l r ⟨p, hp, e1, e2⟩ => by
  obtain ⟨_, _, h⟩ := g p hp
  rw [← e1, ← e2, len_cl, len_cl]; exact h
theorem irr_nil {rs : List (Str × Str)} (g : Good rs) : Irr rs [] := fun v s => by
  have := s.lt (rr_short g)
  simp at this
theorem irr_take {rs : List (Str × Str)} {p : List Nat} {j : Nat} (h : Irr rs p.dropLast) (hj : j ≤ p.length - 1) : Irr rs (p.take j) := by
  refine irr_pre (b := p.dropLast.drop j) ?_
  have e : p.take j = p.dropLast.take j := by
    rw [List.dropLast_eq_take, List.take_take, Nat.min_eq_left hj]
  rw [e, List.take_append_drop]
  exact h
theorem shrinkP_nf {rs : List (Str × Str)} (g : Good rs) : ∀ (f : Nat) (p : List Nat), p.length ≤ f → Irr rs p.dropLast → Star (RR rs) p (shrinkP rs f p) ∧ Irr rs (shrinkP rs f p)
  | 0, p, h, _ => by
    have : p = [] := List.length_eq_zero_iff.mp (by omega)
    subst this
    exact ⟨.refl _, irr_nil g⟩
  | f + 1, p, h, hi => by
    unfold shrinkP
    cases hf : fit rs (last4 p) with
    | none =>
      show Star (RR rs) p p ∧ Irr rs p
      refine ⟨.refl _, ?_⟩
      rintro v ⟨x, l, r, y, ⟨q, hq, e1, e2⟩, e, _⟩
      rcases List.eq_nil_or_concat y with z | ⟨y', b, z⟩
      · subst z
        rw [List.append_nil] at e
        obtain ⟨m, hm, em⟩ := List.getElem_of_mem hq
        have hl : l.length = q.1.length := by rw [← e1, len_cl]
        obtain ⟨n, x2, e3, _⟩ := fit_first g (p := p) (m := m) (l := q.1) (r := q.2) (by rw [List.getElem?_eq_getElem hm, em]) (decide_eq_true ⟨by rw [e, List.length_append]; omega, by
          rw [e, List.length_append, e1, show x.length + l.length - q.1.length = x.length by omega, List.drop_left]⟩)
        rw [hf] at e3; cases e3
      · rw [List.concat_eq_append] at z
        subst z
        refine hi (x ++ r ++ y') ⟨x, l, r, y', ⟨q, hq, e1, e2⟩, ?_, rfl⟩
        rw [e, ← List.append_assoc, List.dropLast_concat]
    | some q =>
      obtain ⟨n, l, r⟩ := q
      obtain ⟨h1, h2⟩ := fit_ends g hf
      obtain ⟨a1, a2, a3, a4, a5⟩ := fit_len g hf
      obtain ⟨b1, b2⟩ := of_decide_eq_true h2
      have hp : p = p.take (p.length - l.length) ++ cl l := by rw [← b2, List.take_append_drop]
      have st : Step (RR rs) p (p.take (p.length - l.length) ++ cl r) := ⟨p.take (p.length - l.length), cl l, cl r, [], ⟨(l, r), List.mem_of_getElem? h1, rfl, rfl⟩, by rw [List.append_nil]; exact hp, by simp⟩
      have hrl := len_cl r
      have hi2 : Irr rs (p.take (p.length - l.length) ++ cl r).dropLast := by
        cases hr : cl r with
        | nil =>
          rw [List.append_nil, List.dropLast_eq_take, List.take_take, List.length_take]
          exact irr_take hi (by omega)
        | cons c t =>
          rw [hr] at hrl
          have ht : t = [] := by
            cases t with
            | nil => rfl
            | cons _ _ => simp at hrl; omega
          subst ht
          rw [List.dropLast_concat]
          exact irr_take hi (by simp at hrl; omega)
      obtain ⟨i1, i2⟩ := shrinkP_nf g f _ (by rw [List.length_append, List.length_take, hrl]; omega) hi2
      exact ⟨.head st i1, i2⟩
/-- the pile, when it begins with an end -/
def overF (rs : List (Str × Str)) (p text : List Nat) : List Nat := text.foldl (fun p c => shrinkP rs (p ++ [c]).length (p ++ [c])) p
theorem overF_nf {rs : List (Str × Str)} (g : Good rs) : ∀ (t p : List Nat), Irr rs p → Star (RR rs) (p ++ t) (overF rs p t) ∧ Irr rs (overF rs p t)
  | [], p, h => ⟨by rw [List.append_nil]; exact .refl _, h⟩
  | c :: t, p, h => by
    obtain ⟨s, i⟩ := shrinkP_nf g (p ++ [c]).length (p ++ [c]) (Nat.le_refl _) (by rw [List.dropLast_concat]; exact h)
    obtain ⟨s2, i2⟩ := overF_nf g t _ i
    refine ⟨?_, i2⟩
    have := s.ctx [] t
    simp at this
    rw [show p ++ c :: t = p ++ (c :: t) from rfl]
    refine Star.trans ?_ s2
    simpa using this
theorem nf_over {rs : List (Str × Str)} (g : Good rs) : Nf (RR rs) (overP rs) :=
  ⟨rr_short g, fun u => (overF_nf g u [] (irr_nil g)).1, fun u v => (overF_nf g u [] (irr_nil g)).2 v⟩
/-- each text has one end -/
def Settled (rs : List (Str × Str)) : Prop := Meets (RR rs) (overP rs)
/-- how the law looks at two left sides -/
def lawOk (rs : List (Str × Str)) (a b c d : List Nat) (k : Nat) : Prop := (a.drop k).take (min (a.length - k) c.length) = c.take (min (a.length - k) c.length) →
  overP rs (b ++ (a ++ c.drop (min (a.length - k) c.length)).drop a.length) = overP rs ((a ++ c.drop (min (a.length - k) c.length)).take k ++ d ++ (a ++ c.drop (min (a.length - k) c.length)).drop (k + c.length))
instance {rs : List (Str × Str)} {a b c d : List Nat} {k : Nat} : Decidable (lawOk rs a b c d k) := by unfold lawOk; infer_instance
def LawSet (rs : List (Str × Str)) : Prop := ∀ p ∈ rs, ∀ q ∈ rs, ∀ k < p.1.length, lawOk rs (cl p.1) (cl p.2) (cl q.1) (cl q.2) k
instance {rs : List (Str × Str)} : Decidable (LawSet rs) := by unfold LawSet; infer_instance
theorem settled_of {rs : List (Str × Str)} (g : Good rs) (h : LawSet rs) : Settled rs := by
  refine ⟨?_, ?_⟩
  · rintro l1 r1 l2 r2 a b c ⟨p, hp, e1, e2⟩ ⟨q, hq, e3, e4⟩ hb el1 el2
    have hbl : 0 < b.length := List.length_pos_iff.mpr hb
    have hk : a.length < p.1.length := by rw [← len_cl, e1, el1, List.length_append]; omega
    have := h p hp q hq a.length hk
    rw [e1, e2, e3, e4, el1, el2] at this
    unfold lawOk at this
    rw [show min ((a ++ b).length - a.length) (b ++ c).length = b.length by rw [List.length_append, List.length_append]; omega] at this
    have h2 := this (by simp)
    rw [List.drop_left] at h2
    rw [List.drop_left] at h2
    rw [h2]
    congr 1
    rw [List.append_assoc a b c, List.take_left, List.drop_of_length_le (by simp), List.append_nil]
  · rintro l1 r1 l2 r2 a c ⟨p, hp, e1, e2⟩ ⟨q, hq, e3, e4⟩ el1
    have hs := rr_short g l2 r2 ⟨q, hq, e3, e4⟩
    have hk : a.length < p.1.length := by rw [← len_cl, e1, el1, List.length_append, List.length_append]; omega
    have := h p hp q hq a.length hk
    rw [e1, e2, e3, e4, el1] at this
    unfold lawOk at this
    rw [show min ((a ++ l2 ++ c).length - a.length) l2.length = l2.length by rw [List.length_append, List.length_append]; omega] at this
    have h2 := this (by simp)
    rw [List.drop_length, List.append_nil, List.drop_length, List.append_nil] at h2
    rw [h2]
    congr 1
    rw [List.append_assoc a l2 c, List.take_left, ← List.append_assoc a l2 c, show a.length + l2.length = (a ++ l2).length by rw [List.length_append], List.drop_left]
theorem cl_app (a b : Str) : cl (a ++ b) = cl a ++ cl b := TL.tl_append a b
theorem cl_used {z l r : Str} {x y : List Nat} {k : Int} (h : cl z = x ++ cl l ++ y) (hk : k = x.length) : cl (usedS z k l r) = x ++ cl r ++ y := by
  unfold usedS
  rw [cl_app, cl_app, cutS_hi x.length hk, cutS_lo (x.length + l.length) (by rw [hk]; omega), cl_mk, cl_mk, h]
  rw [List.append_assoc x, List.take_left, ← List.append_assoc x, show x.length + l.length = (x ++ cl l).length by rw [List.length_append, len_cl], List.drop_left]
theorem step_used {rs : List (Str × Str)} {z l r : Str} {x y : List Nat} {k : Int} (m : (l, r) ∈ rs) (h : cl z = x ++ cl l ++ y) (hk : k = x.length) : Step (RR rs) (cl z) (cl (usedS z k l r)) :=
  ⟨x, cl l, cl r, y, ⟨(l, r), m, rfl, rfl⟩, h, cl_used h hk⟩
theorem bothOf_nat {l o : Str} {p : Nat} (hp : p ≤ l.length) : bothOf l p o = ((min (l.length - p) o.length : Nat) : Int) := by
  unfold bothOf
  split <;> omega
theorem ovText_ok {l o z : Str} {p : Nat} (hp : p ≤ l.length) (h : ovText l (p : Nat) o = some z) : (∃ y, cl z = cl l ++ y) ∧ ∃ y, cl z = (cl l).take p ++ cl o ++ y := by
  unfold ovText at h
  rw [bothOf_nat hp] at h
  generalize hm : min (l.length - p) o.length = m at h
  by_cases e : cutS l (some ((p : Nat) : Int)) (some (((p : Nat) : Int) + ((m : Nat) : Int))) = cutS o none (some ((m : Nat) : Int))
  · rw [if_pos e] at h
    cases h
    rw [cutS_mid p (p + m) rfl (by omega) hp, cutS_hi m rfl] at e
    have e' := congrArg cl e
    rw [cl_mk, cl_mk, show p + m - p = m by omega] at e'
    rw [cl_app, cutS_lo m rfl, cl_mk]
    refine ⟨⟨_, rfl⟩, ?_⟩
    have hll := len_cl l
    have hol := len_cl o
    rcases Nat.le_total o.length (l.length - p) with h1 | h1
    · rw [Nat.min_eq_right h1] at hm
      subst hm
      rw [List.take_of_length_le (l := cl o) (by omega)] at e'
      rw [List.drop_of_length_le (by omega), List.append_nil]
      refine ⟨((cl l).drop p).drop o.length, ?_⟩
      rw [← e', List.append_assoc, List.take_append_drop, List.take_append_drop]
    · rw [Nat.min_eq_left h1] at hm
      rw [List.take_of_length_le (by rw [List.length_drop]; omega)] at e'
      refine ⟨[], ?_⟩
      rw [List.append_nil]
      have : cl o = (cl l).drop p ++ (cl o).drop m := by rw [e', List.take_append_drop]
      rw [this, ← List.append_assoc, List.take_append_drop, ← this]
  · rw [if_neg e] at h; cases h
def rt (rs : List (Str × Str)) (i : Nat) : Str := match rs[i]? with
  | some p => p.2
  | none => ""
theorem rt_of {rs : List (Str × Str)} {i : Nat} {l r : Str} (h : rs[i]? = some (l, r)) : rt rs i = r := by unfold rt; rw [h]
/-- whether the two ways of an overlap lead to one end, by the pile -/
def meets (rs : List (Str × Str)) (o : Ov) : Prop := overP rs (cl (usedS o.1 0 (lf rs o.2.1) (rt rs o.2.1))) = overP rs (cl (usedS o.1 (o.2.2.1 : Nat) (lf rs o.2.2.2) (rt rs o.2.2.2)))
def QuarAt (rs : List (Str × Str)) (os : List Ov) (v : V) : Prop := (v = .non ∧ ∀ o ∈ os, meets rs o) ∨ ∃ (k : Nat) (o : Ov), os[k]? = some o ∧ ¬ meets rs o ∧ (∀ (m : Nat) (o' : Ov), m < k → os[m]? = some o' → meets rs o') ∧ v = .str o.1
theorem ov_mem {rs : List (Str × Str)} {o : Ov} (h : o ∈ ovAll rs) : ∃ l r l2 r2, rs[o.2.1]? = some (l, r) ∧ rs[o.2.2.2]? = some (l2, r2) ∧ ovText l (o.2.2.1 : Nat) l2 = some o.1 ∧ o.2.2.1 < l.length := by
  unfold ovAll ovTo ovRowTo ovCell ovCellTo at h
  obtain ⟨i, hi, h⟩ := List.mem_flatMap.mp h
  obtain ⟨j, hj, h⟩ := List.mem_flatMap.mp h
  obtain ⟨m, hm, h⟩ := List.mem_flatMap.mp h
  have hi' := List.mem_range.mp hi
  have hj' := List.mem_range.mp hj
  have hm' := List.mem_range.mp hm
  obtain ⟨⟨l, r⟩, e1⟩ : ∃ p, rs[i]? = some p := ⟨_, List.getElem?_eq_getElem hi'⟩
  obtain ⟨⟨l2, r2⟩, e2⟩ : ∃ p, rs[j]? = some p := ⟨_, List.getElem?_eq_getElem hj'⟩
  rw [lf_of e1] at h hm'
  rw [lf_of e2] at h
  unfold ovAt at h
  cases ho : ovText l ((ovStart i j + m : Nat) : Int) l2 with
  | none => rw [ho] at h; cases h
  | some z =>
    rw [ho] at h
    have h := List.mem_singleton.mp h
    subst h
    exact ⟨l, r, l2, r2, e1, e2, ho, by simp only; omega⟩
theorem meets_of {rs : List (Str × Str)} (g : Good rs) (s : Settled rs) {o : Ov} (h : o ∈ ovAll rs) : meets rs o := by
  obtain ⟨l, r, l2, r2, e1, e2, e3, e4⟩ := ov_mem h
  obtain ⟨⟨y, h1⟩, y2, h2⟩ := ovText_ok (by omega) e3
  unfold meets
  rw [lf_of e1, rt_of e1, lf_of e2, rt_of e2]
  have a := (nf_over g).step s (step_used (rs := rs) (z := o.1) (l := l) (r := r) (x := []) (k := 0) (List.mem_of_getElem? e1) (by simpa using h1) rfl)
  have b := (nf_over g).step s (step_used (rs := rs) (z := o.1) (l := l2) (r := r2) (x := (cl l).take o.2.2.1) (k := (o.2.2.1 : Nat)) (List.mem_of_getElem? e2) h2 (by rw [List.length_take, len_cl]; omega))
  exact a.symm.trans b
/-- a settled book has no quarrel -/
theorem quar_none {rs : List (Str × Str)} (g : Good rs) (s : Settled rs) {os : List Ov} {v : V} (hs : OvSorted os (ovAll rs)) (h : QuarAt rs os v) : v = .non := by
  rcases h with ⟨h, _⟩ | ⟨k, o, h1, h2, _⟩
  · exact h
  · exact absurd (meets_of g s (hs.perm.mem_iff.mp (List.mem_of_getElem? h1))) h2
end Bk
set_option Elab.async false
set_option linter.all false
set_option maxRecDepth 100000
set_option maxHeartbeats 1000000
namespace Bk
open PySem PySem.Spec PyProof.Rows L2
def rLstS : List V → Hp → VK → Prop := fun xs H Q => ∃ z, xs = [V.str z] ∧ z.length ≤ sizeLine ∧ ∀ l, H l = none → Q (.ref l) (upd H l (.lst ((cl z).map ch)))
def IteS (z : Str) : It :=
  ⟨fun i _ => i < z.cps.size,
   fun i H v H' => ∃ T c, v = .ref T ∧ H T = none ∧ H' = upd H T (.tup [.int (i : Nat), ch c]) ∧ z.cps[i]? = some c,
   fun i _ => i = z.cps.size⟩
theorem turn_enS {P : Program} {w : World} {K : PySem.W.Frag} {elts : List Expr} {kk : Nat} {tpos : Pos} (z : Str) (t : Tok) (e it : Addr) :
    Turn P w K (.Tuple elts kk tpos) (IteS z) [e, it] e (fun i h => (∃ old, IsEnum h e it ((i : Nat) : Int) old) ∧ h.IsStrIter it (strIterType z) z t i ∧ e ≠ it) where
  mem := List.mem_cons_self
  obj := fun i h st b hb => by
    obtain ⟨⟨old, he⟩, ⟨o, ho, _, hd⟩, _⟩ := st
    rcases List.mem_cons.mp hb with q | q
    · rw [q]; exact ⟨_, he, fun v q => nomatch q⟩
    · rw [List.mem_singleton.mp q]; exact ⟨o, ho, fun v q => by rw [hd] at q; cases q⟩
  keep := fun i h h' st k => ⟨⟨_, k e (by simp) _ st.1.choose_spec⟩, (let ⟨o, ho, r⟩ := st.2.1; ⟨o, k it (by simp) o ho, r⟩), st.2.2⟩
  item := by
    rintro X rfl rfl rfl hc i pins s σ H E I hf ⟨⟨old, he⟩, hit, hne⟩ hlt
    have hel : e < s.heap.objs.size := Heap.lt_size he
    have hil : it < s.heap.objs.size := hit.elim fun o q => Heap.lt_size q.1
    have Dr := Draws.text (prog := X.prog) (w := X.w) (A := X.A.in1) (show X.A.in1.handled = none from I.ok.hd hc) it z t
    refine wpAny_pyNext_enum_itemD Dr he hit hlt hne (by simp [hne]) fun x' h' tk hp ho hst hT hsz hk => ?_
    obtain ⟨c, u, hcx, rfl⟩ := hp
    refine ⟨_, rfl, wpAny_letOwnedTupleGo_enum (s := { s with heap := h', toks := tk + 1 }) ho fun h'' he' sb => ?_⟩
    have hT2 : h''.get? s.heap.objs.size = some { cls := .type "tuple", data := .seq #[.int i tk, .str ⟨#[c]⟩ u] } := (sb.2 _ (Nat.ne_of_gt hel)).trans hT
    have new : ObjOk X.prog X.w (upd H s.heap.objs.size (.tup [.int (i : Nat), ch c])) h'' s.heap.objs.size (.tup [.int (i : Nat), ch c]) := ⟨(by decide : 2 ≤ sizeLine), [.int i tk, .str ⟨#[c]⟩ u], .cons ⟨_, rfl⟩ (.cons ⟨u, rfl⟩ .nil), ⟨_, hT2, rfl, _, rfl⟩⟩
    have I1 : Inv X pins σ (upd H s.heap.objs.size (.tup [.int (i : Nat), ch c])) { s with heap := h'', toks := tk + 1 } := by
      refine I.turnedNew (ch := [e, it]) (fun b ob hb q => ?_) hf (Nat.le_refl _) new
      have h1 : b ≠ e := fun z => hb (by simp [z])
      have h2 : b ≠ it := fun z => hb (by simp [z])
      exact (sb.2 b h1).trans (hk b ob h1 h2 q)
    refine ⟨.ref s.heap.objs.size, _, I1, rfl, ⟨_, c, rfl, I.hok.fresh (Nat.le_refl _), rfl, hcx⟩, ⟨⟨.str ⟨#[c]⟩ u, ?_⟩, (let ⟨o, ho, r⟩ := hst; ⟨o, (sb.2 it (Ne.symm hne)).trans ho, r⟩), hne⟩, fun b hb => ?_⟩
    · rw [show ((i + 1 : Nat) : Int) = (i : Int) + 1 by omega]; exact he'
    · have hb' : b < s.heap.objs.size := by
        rcases List.mem_cons.mp hb with z | z
        · rw [z]; exact hel
        · rw [List.mem_singleton.mp z]; exact hil
      rw [upd_ne (Nat.ne_of_lt hb')]; exact (hf b hb).1
  done := by
    rintro X rfl rfl rfl hc i pins s σ H E I hf ⟨⟨old, he⟩, hit, hne⟩ hx
    obtain ⟨f0, f1, f2, f3, f4, f5⟩ := hf it (by simp)
    have Dr := Draws.text (prog := X.prog) (w := X.w) (A := X.A.in1) (show X.A.in1.handled = none from I.ok.hd hc) it z t
    have hx' : i = z.cps.size := hx
    subst hx'
    exact wpAny_pyNext_enum_endD Dr he hit fun h' eb => ⟨rfl, I.turned (t' := s.toks) (fun b o hb q => eb b o hb q) f0 f1 f3 f4 f5⟩
  self := fun A i s Q E st h => wpAny_pyIter_enum st.1.choose_spec h
def iEnumS (ta : TA) : TI := fun σ H R => ta σ H fun vs H1 => ∃ z, vs = [.str z] ∧ R (IteS z) H1
theorem wi_enumS {X : Cx} {e : Expr} {ta : TA} {p pos tpos : Pos} {elts : List Expr} {kk : Nat} (hg : Gl X "enumerate") (hm : X.mg "enumerate" = none) (ha : PA X [e] ta) (hs : starEach [e] X.env = [(false, eval e X.env)] := by rfl) :
    PI X (.Tuple elts kk tpos) (.Call (.Name "enumerate" p) [e] [] pos) (iEnumS ta) := by
  refine ⟨fun pins s σ H R I h => ?_⟩
  refine Call_ (ld_blt I hg hm boot_enumerate (PyProof.Rows.callWith_type1 (thn (ha.run pos pins s σ H _ I h) fun us s1 ⟨vs, H1, I1, r1, z, ex, q⟩ => ?_) hs rfl))
  subst ex
  cases r1 with
  | cons r rr =>
    cases rr
    obtain ⟨t, rfl⟩ := r
    have new : ∀ {h' : Heap}, (∀ b o, s1.heap.get? b = some o → h'.get? b = some o) → ∀ b ∈ [s1.heap.objs.size + 1, s1.heap.objs.size], FpOk X pins H1 b := fun {h'} _ b hb => by
      have hle : s1.heap.objs.size ≤ b := by
        rcases List.mem_cons.mp hb with z | z
        · omega
        · have := List.mem_singleton.mp z; omega
      exact I1.fpOk hle (I1.hok.fresh hle)
    refine call_enumerate_str fun h' he hit hsz hk => wpAny_pyIter_enum he ?_
    exact ⟨s1.heap.objs.size + 1, [s1.heap.objs.size + 1, s1.heap.objs.size], _, _, H1, rfl, I1.kept (t' := s1.toks) hk, turn_enS z t (s1.heap.objs.size + 1) s1.heap.objs.size, ⟨⟨.none, he⟩, hit, Nat.succ_ne_self _⟩, new hk, q⟩
theorem walk_enS {z : Str} : L2.Walk (IteS z) z.cps.size (fun _ => True) (YPair (fun i => some (.int (i : Nat))) (fun i => z.cps[i]?.map ch)) :=
  ⟨fun i _ hi _ => hi, fun _ _ => rfl, fun i H v H' _ _ ⟨T, c, h1, h2, h3, h4⟩ => ⟨T, .int (i : Nat), ch c, h1, h2, h3, rfl, by simp only; rw [h4]; rfl⟩⟩
/-- the loop over enumerate of a text -/
theorem enumS {z : Str} {σ : L2.St} {H : Hp} {D : Ends} {g : TG} {tb : TS} (Pv : Nat → L2.St → Hp → Prop) (h0 : Pv 0 σ H)
    (hs : ∀ i c σ1 H1 T, z.cps[i]? = some c → Pv i σ1 H1 → H1 T = none → g (.ref T) σ1 (upd H1 T (.tup [.int (i : Nat), ch c])) fun σ2 H2 => tb { D with nx := Pv (i + 1), ct := Pv (i + 1), bk := D.nx } σ2 H2)
    (hd : ∀ σ1 H1, Pv z.cps.size σ1 H1 → D.nx σ1 H1) : Wp.FORg (IteS z) g tb D σ H := by
  refine Wp.forIt walk_enS Pv h0 (fun _ _ _ _ _ => trivial) ?_ hd
  rintro i v σ1 H1 H' hi hp ⟨T, x, y, rfl, hT, rfl, hx, hy⟩
  cases hx
  obtain ⟨c, hc, rfl⟩ := Option.map_eq_some_iff.mp hy
  exact hs i c σ1 H1 T hc hp hT
theorem ienumS {ta : TA} {σ : L2.St} {H : Hp} {R : It → Hp → Prop} (h : ta σ H fun vs H1 => ∃ z, vs = [.str z] ∧ R (IteS z) H1) : iEnumS ta σ H R := h
/-! one row of data is less than another one -/
def rLtD (K : PySem.W.Frag) : R2 := fun x y H Q => ∃ d e, Dp K H x d ∧ Dp K H y e ∧ PySem.W.alike d e = true ∧ d ≠ .none ∧ d.depth ≤ 60 ∧ Q (.bl (PySem.W.dataLt d e)) H
def rLtU (K : PySem.W.Frag) : R2 := fun x y H Q => Wp.rLt x y H Q ∨ rLtD K x y H Q
end Bk
namespace Wp
open PySem PySem.Spec PyProof.Rows L2
theorem brk {D : Ends} {σ : L2.St} {H : Hp} (h : D.bk σ H) : tBreak D σ H := h
theorem aug {i : Nat} {te : TE} {ti : TIp} {D : Ends} {σ : L2.St} {H : Hp} (h : ∃ x, σ[i]? = some (some x) ∧ te σ H fun y H1 => ti x y H1 fun z H2 => D.nx (σ.set i (some z)) H2) : tAug i te ti D σ H := h
theorem ipaI {i j : Int} {H : Hp} {Q : VK} {g : Int → Int → Int} (h : Q (.int (g i j)) H) : ipI g (.int i) (.int j) H Q := ⟨i, j, rfl, rfl, h⟩
theorem ipsI {i j : Int} {H : Hp} {Q : VK} {g : Int → Int → Int} (h : Q (.int (g i j)) H) : ipI g (.int i) (.int j) H Q := ⟨i, j, rfl, rfl, h⟩
end Wp
set_option Elab.async false
set_option linter.all false
set_option maxRecDepth 100000
namespace Bk
open PySem PySem.Spec PyProof.Rows L2
/-! written texts, rules, rows of rules, laid by their expressions -/
section
variable {K : PySem.W.Frag} {σ : L2.St}
def LayS (te : TE) (σ : L2.St) (z : Str) : Prop := ∀ (H : Hp) (Q : VK), Q (.str z) H → te σ H Q
def LayR (te : TE) (σ : L2.St) (p : Str × Str) : Prop := ∀ (H : Hp) (Q : VK), (∀ b H', Same H H' → H' b = some (.tup [.str p.1, .str p.2]) → Q (.ref b) H') → te σ H Q
def LayRs (t : TA) (σ : L2.St) (rs : List (Str × Str)) : Prop := ∀ (H : Hp) (R : List V → Hp → Prop), (∀ bs H', Same H H' → RulesAt H' bs rs → R (bs.map V.ref) H') → t σ H R
def LayE (te : TE) (σ : L2.St) (rs : List (Str × Str)) : Prop := ∀ (H : Hp) (Q : VK), (∀ t bs H', Same H H' → H' t = some (.tup (bs.map V.ref)) → RulesAt H' bs rs → Q (.ref t) H') → te σ H Q
/-- rows of rules, at their places -/
def EntAt (H : Hp) : List Addr → List (List (Str × Str)) → Prop
  | [], [] => True
  | t :: ts, rs :: rss => (∃ bs : List Addr, H t = some (.tup (bs.map V.ref)) ∧ RulesAt H bs rs) ∧ EntAt H ts rss
  | _, _ => False
theorem EntAt.same {H H' : Hp} (s : Same H H') : ∀ {ts : List Addr} {rss : List (List (Str × Str))}, EntAt H ts rss → EntAt H' ts rss
  | [], [], _ => trivial
  | _ :: _, _ :: _, ⟨⟨bs, a, b⟩, h⟩ => ⟨⟨bs, s _ _ a, b.same s⟩, h.same s⟩
  | [], _ :: _, h => h.elim
  | _ :: _, [], h => h.elim
theorem EntAt.len {H : Hp} : ∀ {ts : List Addr} {rss : List (List (Str × Str))}, EntAt H ts rss → ts.length = rss.length
  | [], [], _ => rfl
  | _ :: _, _ :: _, ⟨_, h⟩ => by rw [List.length_cons, List.length_cons, h.len]
  | [], _ :: _, h => h.elim
  | _ :: _, [], h => h.elim
theorem EntAt.get {H : Hp} : ∀ {ts : List Addr} {rss : List (List (Str × Str))} {i : Nat} {rs : List (Str × Str)}, EntAt H ts rss → rss[i]? = some rs → ∃ t bs, ts[i]? = some t ∧ H t = some (.tup (bs.map V.ref)) ∧ RulesAt H bs rs
  | [], [], _, _, _, e => by cases e
  | t :: _, _ :: _, 0, _, ⟨⟨bs, a, b⟩, _⟩, e => by cases e; exact ⟨t, bs, rfl, a, b⟩
  | _ :: _, _ :: _, i + 1, _, ⟨_, h⟩, e => h.get (i := i) e
  | [], _ :: _, _, _, h, _ => h.elim
  | _ :: _, [], _, _, h, _ => h.elim
def LayEs (t : TA) (σ : L2.St) (rss : List (List (Str × Str))) : Prop := ∀ (H : Hp) (R : List V → Hp → Prop), (∀ ts H', Same H H' → EntAt H' ts rss → R (ts.map V.ref) H') → t σ H R
def LayM (te : TE) (σ : L2.St) (rss : List (List (Str × Str))) : Prop := ∀ (H : Hp) (Q : VK), (∀ L ts H', Same H H' → H L = none → H' L = some (.lst (ts.map V.ref)) → EntAt H' ts rss → Q (.ref L) H') → te σ H Q
end
/-! the menu of known books, tables of products -/
def knownL (a b : Str) : List (List (Str × Str)) := [[(a ++ a ++ a, a)], [(a ++ a, "")], [(a ++ a ++ a, "")], [(a ++ a, a)], [(a ++ b ++ a, a)], [(b ++ a, a)], [(a ++ b, a), (b ++ b, b)], [(a ++ b ++ b, a)],
  [(a ++ b, ""), (b ++ a, ""), (a ++ a, b), (b ++ b, a)], [(a ++ b, a), (a ++ a, a)], [(a ++ b ++ a ++ b, "")], [(a ++ b, b), (a ++ a, a)]]
def menu8 : List Str := ["ab", "abc", "ac", "bz", "a", "bcd", "kmz", "xy"]
abbrev sg1 (sg : Str) (i : Nat) : Str := ⟨#[(cl sg).getD i 0]⟩
def tableAt (m i j : Int) : List Int := [i, j, if j > i then j else i, 0, if j < i then j else i, m - 1, (i + j + 2).fmod (m + 1) - 1, (i + j + 2).fmod (m + 1) - 1]
def tcell (sg : Str) (k i j : Nat) : Str × Str := (sg1 sg i ++ sg1 sg j, if (tableAt sg.length i j).getD k 0 < 0 then "" else sg1 sg ((tableAt sg.length i j).getD k 0).toNat)
def trow (sg : Str) (k i j : Nat) : List (Str × Str) := (List.range j).map (tcell sg k i)
def tabTo (sg : Str) (k i : Nat) : List (Str × Str) := (List.range i).flatMap fun i' => trow sg k i' sg.length
def pairsL (a b : Str) : List (Str × Str) := [(a ++ b, ""), (b ++ a, "")]
def ruleOkB (sg : Str) (p : Str × Str) : Bool := decide (p.1.length ≤ 4) && decide (p.2.length ≤ 1) && decide (p.2.length < p.1.length) && (cl p.1).all (fun c => decide (c ∈ cl sg)) && (cl p.2).all (fun c => decide (c ∈ cl sg))
/-- rules fit for a book over these signs -/
def bookB (sg : Str) (rs : List (Str × Str)) : Bool := rs.all (ruleOkB sg) && decide rs.Nodup && decide (rs.length ≤ 9)
/-! how far the law has looked -/
def LawTo (rs : List (Str × Str)) (i j k : Nat) : Prop := ∀ i' j' k', (i' < i ∨ (i' = i ∧ (j' < j ∨ (j' = j ∧ k' < k)))) → ∀ p q, rs[i']? = some p → rs[j']? = some q → k' < p.1.length → lawOk rs (cl p.1) (cl p.2) (cl q.1) (cl q.2) k'
def ToldOk (rs : List (Str × Str)) (i j k : Nat) (v : V) : Prop := (v = .non ∧ LawTo rs i j k) ∨ ∃ z, v = .str z ∧ z.length ≤ 8
theorem ToldOk.imp {rs : List (Str × Str)} {i j k i' j' k' : Nat} {v : V} (h : ToldOk rs i j k v) (f : LawTo rs i j k → LawTo rs i' j' k') : ToldOk rs i' j' k' v := Or.imp (fun ⟨a, b⟩ => ⟨a, f b⟩) id h
theorem goodOf {sg : Str} {ps : List (Str × Str)} (h : ∀ p ∈ ps, RuleOk sg p.1 p.2) : Good ps := fun p hp => ⟨(h p hp).l4, (h p hp).r1, (h p hp).lt⟩
/-- the rules of a settled book over these signs -/
structure BookR (sg : Str) (rs : List (Str × Str)) : Prop where
  ok : ∀ p ∈ rs, RuleOk sg p.1 p.2
  nd : rs.Nodup
  le : rs.length ≤ 9
  law : LawSet rs
theorem BookR.good {sg : Str} {rs : List (Str × Str)} (h : BookR sg rs) : Good rs := goodOf h.ok
theorem BookR.set {sg : Str} {rs : List (Str × Str)} (h : BookR sg rs) : Settled rs := settled_of h.good h.law
instance {rs : List (Str × Str)} : Decidable (Good rs) := by unfold Good; infer_instance
def rReprB (K : PySem.W.Frag) : List V → Hp → VK → Prop := fun xs H Q => rReprU K xs H Q ∨ ∃ b, xs = [.bl b] ∧ Q (.str (if b then "True" else "False")) H
end Bk
namespace Wp
open PySem PySem.Spec PyProof.Rows L2
theorem par {i j : Nat} {ta : TA} {D : Ends} {σ : L2.St} {H : Hp} (h : ta σ H fun vs H1 => ∃ v w, vs = [v, w] ∧ D.nx ((σ.set i (some v)).set j (some w)) H1) : tPar i j ta D σ H := h
theorem parV {v w : V} {P : V → V → Prop} (h : P v w) : ∃ v' w', [v, w] = [v', w'] ∧ P v' w' := ⟨v, w, rfl, h⟩
end Wp
set_option Elab.async false
set_option linter.all false
set_option maxRecDepth 100000
set_option maxHeartbeats 2000000
namespace Bk
open PySem PySem.Spec PyProof.Rows L2
/-! the truth of an own object, told by its __bool__; bool(o), not o -/
structure BoolC (K : PySem.W.Frag) (C g : Addr) : Prop where
  at_ : PySem.W.findIn K (.ref C) "__bool__" = some (some (.ref g))
  fn : PySem.W.isFn K (.ref g) = true
section
variable {X : Cx} {pins : List (Addr × Obj)} {σ : L2.St} {H : Hp} {s : Shared} {k : Nat} {g a C dx : Addr} {fs : List (Str × V)} {sp : Sp}
end
section
variable {X : Cx} {k : Nat} {g C : Addr} {sp : Sp}
def rBoolO (C : Addr) (sp : Sp) : List V → Hp → VK → Prop := fun xs H Q => ∃ a dx fs, xs = [V.ref a] ∧ H a = some (.ins C dx fs) ∧ sp [.ref a] H (fun v H' => ∃ b, v = .bl b ∧ Q (.bl b) H') E0
/-- an own object as a test -/
def tTruO (C : Addr) (sp : Sp) (ta : TE) : TT := fun σ H Q => ta σ H fun x H' => ∃ a dx fs, x = .ref a ∧ H' a = some (.ins C dx fs) ∧ sp [.ref a] H' (fun v H2 => ∃ b, v = .bl b ∧ Q b H2) E0
/-- not o -/
def tNotO (C : Addr) (sp : Sp) (ta : TE) : TE := fun σ H Q => ta σ H fun x H' => ∃ a dx fs, x = .ref a ∧ H' a = some (.ins C dx fs) ∧ sp [.ref a] H' (fun v H2 => ∃ b, v = .bl b ∧ Q (.bl (!b)) H2) E0
end
theorem wc_any {X : Cx} {K : PySem.W.Frag} (hc : X.calm = true) (hK : X.K = K := by rfl) : CallR X (.builtin "any") (rAny K) := by subst hK; exact cr_any hc
/-- a comprehension over a list or a tuple -/
theorem iu_lc {K : PySem.W.Frag} {σ : L2.St} {H : Hp} {Q : VK} {g : TG} {tt : TT} {te : TE} {vs : List Nat} {i : Nat} {t : Addr} {xs : List V} (e : σ[i]? = some (some (.ref t))) (h : RowAt H t xs)
    (hh : ∀ A, H A = none → ∃ Pv : Nat → Hp → Prop, Pv 0 (upd H A (.lst [])) ∧ (∀ j H1, Pv j H1 → Same H H1) ∧ (∀ j x H1, xs[j]? = some x → Pv j H1 → g x (wipe σ vs) H1 fun σ2 H2 => wipe σ2 vs = wipe σ vs ∧ tt σ2 H2 fun b H3 =>
      if b = true then te σ2 H3 fun y H4 => ∃ acc, H4 A = some (.lst acc) ∧ acc.length < sizeLine ∧ Pv (j + 1) (upd H4 A (.lst (acc ++ [y]))) else Pv (j + 1) H3) ∧ ∀ H1, Pv xs.length H1 → Q (.ref A) H1) :
    iU K (tVar i) σ H fun J H1 => ∀ A, H1 A = none → Wp.LCg J g tt te vs σ Q H1 A := by
  rcases h with h | h
  · refine .inl ⟨_, e, t, rfl, ⟨_, SqL.of h⟩, fun A hA => ?_⟩
    obtain ⟨Pv, h0, hG, hs, hd⟩ := hh A hA
    refine Wp.lcIt (walk_list (xs := xs)) Pv h0 (fun j H1 _ hp => SqL.of (hG j H1 hp _ _ h)) ?_ hd
    rintro j x H1 H1' _ hp ⟨rfl, hx⟩
    exact hs j x H1' hx hp
  · refine .inr ⟨_, e, t, rfl, ⟨_, SqT.of h⟩, fun A hA => ?_⟩
    obtain ⟨Pv, h0, hG, hs, hd⟩ := hh A hA
    refine Wp.lcIt (walk_tup (xs := xs)) Pv h0 (fun j H1 _ hp => SqT.of (hG j H1 hp _ _ h)) ?_ hd
    rintro j x H1 H1' _ hp ⟨rfl, hx⟩
    exact hs j x H1' hx hp
/-! all ends of a size, sign by sign -/
def fitsEnd (rs : List (Str × Str)) (u : List Nat) : Bool := rs.any fun r => ends u r.1
def longerOf (rs : List (Str × Str)) (sg t : List Nat) : List (List Nat) := (sg.map fun c => t ++ [c]).filter fun u => !fitsEnd rs u
def longer (rs : List (Str × Str)) (sg : List Nat) (lv : List (List Nat)) : List (List Nat) := lv.flatMap (longerOf rs sg)
def levs (rs : List (Str × Str)) (sg : List Nat) : Nat → List (List Nat)
  | 0 => [[]]
  | k + 1 => longer rs sg (levs rs sg k)
def endsUp (rs : List (Str × Str)) (sg : List Nat) (n : Nat) : List (List Nat) := (List.range (n + 1)).flatMap (levs rs sg)
abbrev tx (l : List (List Nat)) : List V := l.map fun t => V.str (mkS t)
theorem tx_app (a b : List (List Nat)) : tx (a ++ b) = tx a ++ tx b := List.map_append
theorem endsUp_succ {rs : List (Str × Str)} {sg : List Nat} {n : Nat} : endsUp rs sg (n + 1) = endsUp rs sg n ++ levs rs sg (n + 1) := by
  unfold endsUp
  rw [List.range_succ, List.flatMap_append]; simp
theorem longerOf_len {rs : List (Str × Str)} {sg t : List Nat} : (longerOf rs sg t).length ≤ sg.length := by
  refine Nat.le_trans (List.length_filter_le _ _) ?_
  rw [List.length_map]; exact Nat.le_refl _
theorem levs_size {rs : List (Str × Str)} {sg : List Nat} : ∀ (k : Nat), ∀ t ∈ levs rs sg k, t.length = k
  | 0, t, h => by rw [List.mem_singleton.mp h]; rfl
  | k + 1, t, h => by
    obtain ⟨u, hu, h2⟩ := List.mem_flatMap.mp (show t ∈ longer rs sg (levs rs sg k) from h)
    obtain ⟨c, hc, rfl⟩ := List.mem_map.mp (List.mem_filter.mp h2).1
    rw [List.length_append, levs_size k u hu]; rfl
theorem longer_take {rs : List (Str × Str)} {sg : List Nat} {lv : List (List Nat)} {i : Nat} {t : List Nat} (h : lv[i]? = some t) : longer rs sg (lv.take (i + 1)) = longer rs sg (lv.take i) ++ longerOf rs sg t := by
  unfold longer
  rw [List.take_add_one, h, List.flatMap_append]; simp
theorem longerOf_take {rs : List (Str × Str)} {sg t : List Nat} {j c : Nat} (h : sg[j]? = some c) : longerOf rs (sg.take (j + 1)) t = longerOf rs (sg.take j) t ++ if fitsEnd rs (t ++ [c]) = true then [] else [t ++ [c]] := by
  unfold longerOf
  rw [List.take_add_one, h, List.map_append, List.filter_append]
  congr 1
  by_cases e : fitsEnd rs (t ++ [c]) = true
  · rw [if_pos e]; simp [e]
  · rw [if_neg e]; simp [e]
end Bk
set_option Elab.async false
set_option linter.all false
set_option maxRecDepth 100000
namespace Bk
open PySem PySem.Spec PyProof.Rows L2
open Cf (Step Star)
theorem mk_iff {a b : List Nat} : mkS a = mkS b ↔ a = b := ⟨fun h => by have := congrArg cl h; rw [cl_mk, cl_mk] at this; exact this, fun h => by rw [h]⟩
/-! whether a left side stands in a text -/
theorem in_iff (x y : Str) : (!(Builtin.Str.occurrences x y 0 x.length 1).isEmpty) = true ↔ ∃ a b, cl x = a ++ cl y ++ b := by
  rw [StrLaws.found_iff]
  have hx := len_cl x
  have hy := len_cl y
  constructor
  · rintro ⟨i, h1, h2⟩
    rw [StrLaws.subAt_eq, beq_iff_eq] at h2
    refine ⟨(cl x).take i, (cl x).drop (i + y.length), ?_⟩
    have e : (cl x).drop i = cl y ++ (cl x).drop (i + y.length) := by
      have h2' : ((cl x).drop i).take y.length = cl y := h2
      rw [← h2', ← List.drop_drop]
      exact (List.take_append_drop _ _).symm
    rw [List.append_assoc, ← e, List.take_append_drop]
  · rintro ⟨a, b, e⟩
    refine ⟨a.length, ?_, ?_⟩
    · rw [← hx, e, List.length_append, List.length_append, hy]; omega
    · rw [StrLaws.subAt_eq, beq_iff_eq]
      show ((cl x).drop a.length).take y.length = cl y
      rw [e, List.append_assoc, List.drop_left, ← hy, List.take_left]
theorem irr_iff {rs : List (Str × Str)} {p : List Nat} : Irr rs p ↔ ∀ q ∈ rs, ¬ ∃ a b, p = a ++ cl q.1 ++ b := by
  constructor
  · rintro h q hq ⟨a, b, e⟩
    exact h (a ++ cl q.2 ++ b) ⟨a, cl q.1, cl q.2, b, ⟨q, hq, rfl, rfl⟩, e, rfl⟩
  · rintro h v ⟨x, l, r, y, ⟨q, hq, e1, e2⟩, e, _⟩
    exact h q hq ⟨x, y, by rw [e1]; exact e⟩
theorem length_putK_new {kvs : List (Key × V)} {k : Key} {v : V} (h : valV kvs k = none) : (putK kvs k v).length = kvs.length + 1 := by
  have e : (kvs.any fun kv => decide (kv.1 = k)) = false := by rw [valV_any, h]; rfl
  unfold putK
  rw [e, if_neg Bool.false_ne_true, List.length_append]; rfl
/-! a search through all texts below one -/
def fnd (kvs : List (Key × V)) (u : List Nat) : Prop := (valV kvs (Sum.inr (mkS u))).isSome = true
instance {kvs : List (Key × V)} {u : List Nat} : Decidable (fnd kvs u) := by unfold fnd; infer_instance
theorem fnd_put {kvs : List (Key × V)} {u w : List Nat} {v : V} : fnd (putK kvs (Sum.inr (mkS u)) v) w ↔ w = u ∨ fnd kvs w := by
  unfold fnd
  rw [valV_put]
  by_cases h : w = u
  · subst h; rw [if_pos rfl]; simp
  · rw [if_neg (fun z => h (mk_iff.mp (Sum.inr.inj z)))]
    exact ⟨.inr, fun z => z.resolve_left h⟩
def unf (all : List (List Nat)) (kvs : List (Key × V)) : Nat := (all.filter fun u => !decide (fnd kvs u)).length
theorem filter_less {α : Type} {p q : α → Bool} {x : α} (hpq : ∀ y, q y = true → p y = true) (hp : p x = true) (hq : q x = false) : ∀ {l : List α}, x ∈ l → (l.filter q).length + 1 ≤ (l.filter p).length
  | [], h => nomatch h
  | y :: l, h => by
    have mono : ∀ l : List α, (l.filter q).length ≤ (l.filter p).length := by
      intro l
      induction l with
      | nil => exact Nat.le_refl _
      | cons z l ih =>
        rw [List.filter_cons, List.filter_cons]
        cases hz : q z with
        | true => rw [hpq z hz]; simpa using ih
        | false => cases p z <;> simp <;> omega
    rw [List.filter_cons, List.filter_cons]
    rcases List.mem_cons.mp h with z | z
    · subst z
      rw [hp, hq]
      simp
      exact mono l
    · have ih := filter_less hpq hp hq z
      cases hz : q y with
      | true => rw [hpq y hz]; simpa using ih
      | false => cases p y <;> simp <;> omega
theorem unf_put {all : List (List Nat)} {kvs : List (Key × V)} {u : List Nat} {v : V} (hu : u ∈ all) (h : ¬ fnd kvs u) : unf all (putK kvs (Sum.inr (mkS u)) v) + 1 ≤ unf all kvs := by
  refine filter_less (p := fun u => !decide (fnd kvs u)) (q := fun w => !decide (fnd (putK kvs (Sum.inr (mkS u)) v) w)) (x := u) (fun y hy => ?_) (by simpa using h) (by simp [fnd_put]) hu
  simp only [Bool.not_eq_true', decide_eq_false_iff_not, fnd_put, not_or] at hy
  simpa using hy.2
structure Rch (rs : List (Str × Str)) (all : List (List Nat)) (z : List Nat) (ok : List Nat → Prop) (kvs : List (Key × V)) (wl : List (List Nat)) (ex : List Nat → Prop) : Prop where
  st : ∀ u, fnd kvs u → Star (RR rs) z u
  w : ∀ u ∈ wl, fnd kvs u
  c : ∀ u, fnd kvs u → u ∉ wl → ex u ∨ (ok u ∧ ∀ v, Step (RR rs) u v → fnd kvs v)
  z : fnd kvs z
  sz : kvs.length + unf all kvs ≤ all.length
  wz : wl.length ≤ kvs.length
theorem Rch.pop {rs : List (Str × Str)} {all : List (List Nat)} {z u0 : List Nat} {ok : List Nat → Prop} {kvs : List (Key × V)} {wl : List (List Nat)} (x : Rch rs all z ok kvs (wl ++ [u0]) fun _ => False) : Rch rs all z ok kvs wl (· = u0) := by
  refine ⟨x.st, fun u hu => x.w u (List.mem_append.mpr (.inl hu)), fun u hu hw => ?_, x.z, x.sz, by have := x.wz; rw [List.length_append] at this; omega⟩
  by_cases e : u = u0
  · exact .inl e
  · refine .inr ((x.c u hu fun h => ?_).resolve_left id)
    rcases List.mem_append.mp h with h | h
    · exact hw h
    · exact e (List.mem_singleton.mp h)
theorem Rch.push {rs : List (Str × Str)} {all : List (List Nat)} {z v : List Nat} {ok ex : List Nat → Prop} {kvs : List (Key × V)} {wl : List (List Nat)} {y : V} (x : Rch rs all z ok kvs wl ex) (hv : ¬ fnd kvs v) (hs : Star (RR rs) z v) (ha : v ∈ all) :
    Rch rs all z ok (putK kvs (Sum.inr (mkS v)) y) (wl ++ [v]) ex ∧ 2 * unf all (putK kvs (Sum.inr (mkS v)) y) + (wl ++ [v]).length < 2 * unf all kvs + wl.length := by
  have h1 := unf_put (v := y) ha hv
  have h2 : (putK kvs (Sum.inr (mkS v)) y).length = kvs.length + 1 := by
    have hn : valV kvs (Sum.inr (mkS v)) = none := by
      cases e : valV kvs (Sum.inr (mkS v)) with
      | none => rfl
      | some _ => exact absurd (show fnd kvs v by unfold fnd; rw [e]; rfl) hv
    exact length_putK_new hn
  refine ⟨⟨fun u hu => ?_, fun u hu => ?_, fun u hu hw => ?_, fnd_put.mpr (.inr x.z), by rw [h2]; have := x.sz; omega, by rw [h2, List.length_append]; have := x.wz; simp; omega⟩, by rw [List.length_append]; simp; omega⟩
  · rcases fnd_put.mp hu with e | e
    · rw [e]; exact hs
    · exact x.st u e
  · rcases List.mem_append.mp hu with e | e
    · exact fnd_put.mpr (.inr (x.w u e))
    · exact fnd_put.mpr (.inl (List.mem_singleton.mp e))
  · rcases fnd_put.mp hu with e | e
    · exact absurd (List.mem_append.mpr (.inr (List.mem_singleton.mpr e))) hw
    · exact (x.c u e fun h => hw (List.mem_append.mpr (.inl h))).imp id fun ⟨a, b⟩ => ⟨a, fun v hv => fnd_put.mpr (.inr (b v hv))⟩
theorem Rch.done {rs : List (Str × Str)} {all : List (List Nat)} {z u0 : List Nat} {ok : List Nat → Prop} {kvs : List (Key × V)} {wl : List (List Nat)} (x : Rch rs all z ok kvs wl (· = u0)) (h0 : ok u0) (h : ∀ v, Step (RR rs) u0 v → fnd kvs v) : Rch rs all z ok kvs wl fun _ => False :=
  ⟨x.st, x.w, fun u hu hw => .inr ((x.c u hu hw).elim (fun e => by subst e; exact ⟨h0, h⟩) id), x.z, x.sz, x.wz⟩
theorem Rch.all {rs : List (Str × Str)} {all : List (List Nat)} {z : List Nat} {ok : List Nat → Prop} {kvs : List (Key × V)} (x : Rch rs all z ok kvs [] fun _ => False) {u : List Nat} (s : Star (RR rs) z u) : fnd kvs u ∧ ok u := by
  have h : ∀ {v w : List Nat}, Star (RR rs) v w → fnd kvs v → fnd kvs w := by
    intro v w s
    induction s with
    | refl => exact id
    | head s _ ih => exact fun hv => ih (((x.c _ hv (by simp)).resolve_left id).2 _ s)
  have h2 := h s x.z
  exact ⟨h2, ((x.c _ h2 (by simp)).resolve_left id).1⟩
end Bk
namespace Bk
open PySem PySem.Spec PyProof.Rows L2
/-- an instance is called, also in a comprehension -/
def tCallD (C : Addr) (sp : Sp) (E : XK) (tf : TE) (t : TA) : TE := fun σ H Q => tf σ H fun y H1 => ∃ a, y = V.ref a ∧ t σ H1 fun vs H2 => ((∃ dx vs, SlX.Slt H2 a C dx vs) ∨ ∃ dx fs, H2 a = some (.ins C dx fs)) ∧ sp (V.ref a :: vs) H2 Q E
end Bk
set_option Elab.async false
set_option linter.all false
set_option maxRecDepth 100000
namespace Bk
open PySem PySem.Spec PyProof.Rows L2
/-! texts in their order: by length, then by their signs -/
def tx2 (z : Str) : PyData := .tuple [.int (z.length : Nat), .str z]
def dec2 : PyData → List Nat
  | .tuple [.int _, .str z] => cl z
  | _ => []
def txLe (x y : List Nat) : Bool := decide (x.length < y.length ∨ (x.length = y.length ∧ x ≤ y))
/-- ascending -/
def asc (us : List (List Nat)) : List (List Nat) := us.mergeSort txLe
theorem txLe_iff {x y : List Nat} : txLe x y = true ↔ x.length < y.length ∨ (x.length = y.length ∧ x ≤ y) := by unfold txLe; rw [decide_eq_true_iff]
theorem txLe_trans (x y z : List Nat) (h : txLe x y = true) (k : txLe y z = true) : txLe x z = true := by
  rw [txLe_iff] at h k ⊢
  rcases h with h | ⟨h, h2⟩ <;> rcases k with k | ⟨k, k2⟩
  · left; omega
  · left; omega
  · left; omega
  · right; exact ⟨by omega, List.le_trans h2 k2⟩
theorem txLe_total (x y : List Nat) : (txLe x y || txLe y x) = true := by
  rw [Bool.or_eq_true, txLe_iff, txLe_iff]
  rcases Nat.lt_trichotomy x.length y.length with h | h | h
  · left; left; exact h
  · rcases List.le_total x y with k | k
    · left; right; exact ⟨h, k⟩
    · right; right; exact ⟨h.symm, k⟩
  · right; left; exact h
theorem txLe_anti {x y : List Nat} (h : txLe x y = true) (k : txLe y x = true) : x = y := by
  rw [txLe_iff] at h k
  rcases h with h | ⟨h, h2⟩
  · rcases k with k | ⟨k, _⟩ <;> omega
  · rcases k with k | ⟨_, k2⟩
    · omega
    · exact List.le_antisymm h2 k2
theorem asc_perm (us : List (List Nat)) : (asc us).Perm us := List.mergeSort_perm _ _
theorem asc_sorted (us : List (List Nat)) : (asc us).Pairwise fun x y => txLe x y = true := List.pairwise_mergeSort txLe_trans txLe_total us
theorem asc_mem {us : List (List Nat)} {u : List Nat} : u ∈ asc us ↔ u ∈ us := (asc_perm us).mem_iff
theorem dataLt_tx (x y : Str) : PySem.W.dataLt (tx2 x) (tx2 y) = decide ((cl x).length < (cl y).length ∨ ((cl x).length = (cl y).length ∧ cl x < cl y)) := by
  unfold tx2
  rw [PySem.W.dataLt_pair (by simp [PySem.W.alike]) (by simp [PySem.W.alike]), PySem.W.dataLt_int, PySem.W.dataLt_str, len_cl, len_cl]
  simp only [PyData.eqv, beq_iff_eq]
  have e : (x.cps.toList < y.cps.toList) = (cl x < cl y) := rfl
  by_cases h1 : ((x.length : Nat) : Int) = (y.length : Nat)
  · have h1' : x.length = y.length := by omega
    rw [if_pos h1]
    by_cases h2 : x = y
    · subst h2; simp
    · simp only [if_neg h2, h1', Nat.lt_irrefl, false_or, true_and]
  · have h1' : ¬ x.length = y.length := by omega
    rw [if_neg h1]
    simp [h1']
theorem dataLe_tx (x y : Str) : (!PySem.W.dataLt (tx2 y) (tx2 x)) = txLe (cl x) (cl y) := by
  rw [dataLt_tx, Bool.eq_iff_iff, txLe_iff, Bool.not_eq_true', decide_eq_false_iff_not]
  constructor
  · intro h
    rcases Nat.lt_trichotomy (cl x).length (cl y).length with k | k | k
    · exact .inl k
    · exact .inr ⟨k, List.not_lt.mp fun z => h (.inr ⟨k.symm, z⟩)⟩
    · exact absurd (.inl k) h
  · rintro (h | ⟨h, h2⟩) (k | ⟨k, k2⟩)
    · omega
    · omega
    · omega
    · exact List.not_lt.mpr h2 k2
theorem tx_sorted {ws : List V} {xs : List Str} (hl : ws.length = xs.length) : ((ws.zip (xs.map tx2)).mergeSort (PySem.W.dataLe false Prod.snd)).map (fun q => dec2 q.2) = asc (xs.map cl) := by
  have hm : ∀ q ∈ ws.zip (xs.map tx2), ∃ z, q.2 = tx2 z := fun q hq => by
    obtain ⟨z, _, e⟩ := List.mem_map.mp (List.of_mem_zip (show (q.1, q.2) ∈ ws.zip (xs.map tx2) from hq)).2
    exact ⟨z, e.symm⟩
  rw [List.map_mergeSort (s := txLe)]
  · congr 1
    have h1 : ((ws.zip (xs.map tx2)).map Prod.snd).map dec2 = xs.map cl := by
      rw [List.map_snd_zip (by rw [List.length_map]; omega), List.map_map]
      exact List.map_congr_left fun z _ => rfl
    rwa [List.map_map] at h1
  · intro a ha b hb
    obtain ⟨x, ex⟩ := hm a ha
    obtain ⟨y, ey⟩ := hm b hb
    show (!PySem.W.dataLt b.2 a.2) = txLe (dec2 a.2) (dec2 b.2)
    rw [ex, ey]
    exact dataLe_tx x y
theorem tx2s_no : ∀ xs : List Str, Wp.noLA (xs.map tx2) = true
  | [] => rfl
  | x :: xs => by
    show (Wp.noL (tx2 x) && Wp.noLA (xs.map tx2)) = true
    rw [tx2s_no xs]; rfl
theorem tx2_alike (xs : List Str) : PySem.W.AllAlike (xs.map tx2) := fun d hd d' hd' => by
  obtain ⟨x, _, rfl⟩ := List.mem_map.mp hd
  obtain ⟨y, _, rfl⟩ := List.mem_map.mp hd'
  simp [tx2, PySem.W.alike, PySem.W.alikeAll]
theorem tx2_sortable (xs : List Str) : PySem.W.Sortable (xs.map tx2) := .inl fun d hd => by
  obtain ⟨x, _, rfl⟩ := List.mem_map.mp hd
  simp [tx2]
theorem tx2_depth (z : Str) : (tx2 z).depth ≤ 60 := by simp [tx2, PyData.depth, PyData.depthAll]
end Bk
namespace Wp
open PySem PySem.Spec PyProof.Rows L2
theorem dK_inR {H : Hp} {a : Addr} {kvs : List (Key × V)} {z : Str} {R : Option V → Prop} (h : Rd H a (.dK kvs)) (q : R (valV kvs (Sum.inr z))) : ∃ b o, V.ref a = .ref b ∧ DGet H b (.str z) o ∧ R o := ⟨a, _, rfl, .inl ⟨kvs, Sum.inr z, h, rfl, rfl⟩, q⟩
end Wp
set_option Elab.async false
set_option linter.all false
set_option maxRecDepth 100000
namespace Bk
open PySem PySem.Spec PyProof.Rows L2
open Cf (Step Star Nf)
/-- a proper piece of u is one of these texts -/
def properP (L : List Str) (u : List Nat) : Prop := ∃ x w y, u = x ++ w ++ y ∧ w ≠ [] ∧ w.length < u.length ∧ mkS w ∈ L
theorem proper_at {L : List Str} {u : List Nat} {i j : Nat} (hij : i < j) (hj : j ≤ u.length) (hs : j - i < u.length) (h : mkS ((u.drop i).take (j - i)) ∈ L) : properP L u := by
  refine ⟨u.take i, (u.drop i).take (j - i), u.drop j, ?_, fun e => ?_, ?_, h⟩
  · have : u.drop j = (u.drop i).drop (j - i) := by rw [List.drop_drop]; congr 1; omega
    rw [this, List.append_assoc, List.take_append_drop, List.take_append_drop]
  · have h0 := congrArg List.length e
    rw [List.length_take, List.length_drop] at h0
    have h1 : min (j - i) (u.length - i) = 0 := h0
    omega
  · rw [List.length_take, List.length_drop]; omega
theorem proper_none {L : List Str} {u : List Nat} (h : ∀ i j, i < u.length → i < j → j ≤ u.length → j - i < u.length → mkS ((u.drop i).take (j - i)) ∉ L) : ¬ properP L u := by
  rintro ⟨x, w, y, rfl, hw, hl, hm⟩
  have hw1 : 0 < w.length := List.length_pos_iff.mpr hw
  refine h x.length (x.length + w.length) (by rw [List.length_append, List.length_append]; omega) (by omega) (by rw [List.length_append, List.length_append]; omega) (by omega) ?_
  rw [Nat.add_sub_cancel_left, List.append_assoc, List.drop_left, List.take_left]
  exact hm
theorem first_iffN : ∀ {rs : List (Str × Str)} {x : Str} {n : Nat}, (firstFrom n rs x).isSome = true ↔ x ∈ rs.map (·.1)
  | [], x, n => by simp [firstFrom]
  | (l, r) :: rs, x, n => by
    rw [firstFrom, List.map_cons, List.mem_cons]
    by_cases h : l = x
    · subst h; simp
    · rw [if_neg h, first_iffN]
      exact ⟨.inr, fun z => z.resolve_left fun e => h e.symm⟩
theorem first_iff {rs : List (Str × Str)} {x : Str} : (firstOf rs x).isSome = true ↔ x ∈ rs.map (·.1) := first_iffN
/-- the least left sides -/
structure LeastL (rs : List (Str × Str)) (ls : List (List Nat)) : Prop where
  srt : ls.Pairwise fun x y => txLe x y = true
  nd : ls.Nodup
  mem : ∀ l, l ∈ ls ↔ (∃ p ∈ rs, cl p.1 = l) ∧ ¬ properP (rs.map (·.1)) l
def leastR (rs : List (Str × Str)) (ls : List (List Nat)) : List (Str × Str) := ls.map fun l => (mkS l, mkS (overP rs l))
/-- what is told of two books' ends -/
def SameDue (rs rs2 : List (Str × Str)) : Option (List Nat) → Prop
  | none => ∀ u, overP rs u = overP rs2 u
  | some u => overP rs u ≠ overP rs2 u ∧ ∀ v, txLe v u = true → v ≠ u → overP rs v = overP rs2 v
end Bk
set_option Elab.async false
set_option linter.all false
set_option maxRecDepth 100000
namespace Bk
open PySem PySem.Spec PyProof.Rows L2
end Bk
namespace Wp
open PySem PySem.Spec PyProof.Rows L2
def DCg (J : It) (g : TG) (tt : TT) (tk tv : TE) (vs : List Nat) (σ : L2.St) (Q : VK) (H1 : Hp) (D : Addr) : Prop := ∃ W : Nat → Nat → Hp → Prop, (∃ m, W 0 m (upd H1 D (.dK []))) ∧ ∀ i m H, W i m H →
  (J.stop i H ∧ Q (.ref D) H) ∨ (J.go i H ∧ ∃ Nx : Hp → Prop, (∀ H', Nx H' → ∃ m', m' < m ∧ W (i + 1) m' H') ∧ ∀ x H', J.yld i H x H' → g x (wipe σ vs) H' fun σ2 H2 => wipe σ2 vs = wipe σ vs ∧ tt σ2 H2 fun b H3 =>
    if b = true then tk σ2 H3 fun y H4 => tv σ2 H4 fun z H5 => ∃ kvs k, y = kV k ∧ H5 D = some (.dK kvs) ∧ kvs.length < sizeLine ∧ Nx (upd H5 D (.dK (putK kvs k z))) else Nx H3)
theorem dc {wi : TI} {g : TG} {tt : TT} {tk tv : TE} {vs : List Nat} {σ : L2.St} {H : Hp} {Q : VK} (h : wi σ H fun J H1 => ∀ D, H1 D = none → DCg J g tt tk tv vs σ Q H1 D) : tDc wi g tt tk tv vs σ H Q := h
theorem dcIt {J : It} {n : Nat} {G : Hp → Prop} {Y : Nat → Hp → V → Hp → Prop} (w : L2.Walk J n G Y) {g : TG} {tt : TT} {tk tv : TE} {vs : List Nat} {σ : L2.St} {H1 : Hp} {Q : VK} {D : Addr} (Pv : Nat → Hp → Prop) (h0 : Pv 0 (upd H1 D (.dK [])))
    (hG : ∀ i H, i ≤ n → Pv i H → G H)
    (hs : ∀ i x H H', i < n → Pv i H → Y i H x H' → g x (wipe σ vs) H' fun σ2 H2 => wipe σ2 vs = wipe σ vs ∧ tt σ2 H2 fun b H3 =>
      if b = true then tk σ2 H3 fun y H4 => tv σ2 H4 fun z H5 => ∃ kvs k, y = kV k ∧ H5 D = some (.dK kvs) ∧ kvs.length < sizeLine ∧ Pv (i + 1) (upd H5 D (.dK (putK kvs k z))) else Pv (i + 1) H3) (hd : ∀ H, Pv n H → Q (.ref D) H) : DCg J g tt tk tv vs σ Q H1 D := by
  refine ⟨fun i m H => m = n - i ∧ i ≤ n ∧ Pv i H, ⟨n, by simp, Nat.zero_le _, h0⟩, fun i m H ⟨e, hi, p⟩ => ?_⟩
  have q := hG i H hi p
  rcases Nat.lt_or_ge i n with hlt | hge
  · exact .inr ⟨w.goes i H hlt q, Pv (i + 1), fun H' p' => ⟨n - (i + 1), by omega, rfl, hlt, p'⟩, fun x H' y => hs i x H H' hlt p (w.yields i H x H' hlt q y)⟩
  · have e2 : i = n := by omega
    subst e2
    exact .inl ⟨w.stops H q, hd H p⟩
end Wp
set_option Elab.async false
set_option linter.all false
set_option maxRecDepth 100000
set_option maxHeartbeats 4000000
namespace Bk
open PySem PySem.Spec PyProof.Rows L2
/-! t[::-1], t a tuple -/
section
variable {prog : Program} {w : World} {A : Around} {E : Value → Shared → Prop} {s : Shared}
end
def tRevT (K : PySem.W.Frag) (te : TE) : TE := fun σ H Q => te σ H fun x H1 => ∃ a xs, x = .ref a ∧ SqT K H1 a xs ∧ ∀ p, H1 p = none → Q (.ref p) (upd H1 p (.tup xs.reverse))
theorem revT {K : PySem.W.Frag} {te : TE} {σ : L2.St} {H : Hp} {Q : VK} (h : te σ H fun x H1 => ∃ a xs, x = .ref a ∧ SqT K H1 a xs ∧ ∀ p, H1 p = none → Q (.ref p) (upd H1 p (.tup xs.reverse))) : tRevT K te σ H Q := h
/-! == of instances with an own __eq__ -/
structure EqC (K : PySem.W.Frag) (C f : Addr) : Prop where
  a : PySem.W.findIn K (.ref C) "__eq__" = some (some (.ref f))
  n : PySem.W.isFn K (.ref f) = true
def rEqO (C : Addr) (sp : Sp) : R2 := fun x y H Q => ∃ a b dx dy fs gs, x = .ref a ∧ y = .ref b ∧ H a = some (.ins C dx fs) ∧ H b = some (.ins C dy gs) ∧ sp [.ref a, .ref b] H (fun v H' => ∃ k, v = .bl k ∧ Q (.bl k) H') E0
end Bk
set_option Elab.async false
set_option linter.all false
set_option maxRecDepth 100000
namespace Bk
open PySem PySem.Spec PyProof.Rows L2
/-! several except clauses, with names or without, of which one always fits -/
def clA (o : Option Nat) (ts : Addr → Value → Option Addr → TS) (a : Addr) (cls : Value) (d : Option Addr) (D : Ends) (σ : L2.St) (H : Hp) : Prop := match o with
  | none => ts a cls d D σ H
  | some i => ts a cls d { nx := fun σ' H' => D.nx (σ'.set i none) H', rt := D.rt, bk := fun σ' H' => D.bk (σ'.set i none) H', ct := fun σ' H' => D.ct (σ'.set i none) H' } (σ.set i (some (.ref a))) H
/-- a clause: the class that it names, the slot of its name, its suite -/
abbrev Cla := Value × Option Nat × (Addr → Value → Option Addr → TS)
def wMA (K : PySem.W.Frag) (D : Ends) : List Cla → WX
  | [] => fun _ _ _ _ => False
  | (c, o, ts) :: r => fun cls d σ H => ∃ b, PySem.W.exmOne K cls c = some b ∧ (b = true → ∀ a, H a = none → clA o ts a cls d D σ H) ∧ (b = false → wMA K D r cls d σ H)
/-- the name of a clause stands in the slot -/
def NameAt (X : Cx) : Option Str → Option Nat → Prop
  | none, none => True
  | some n, some i => X.N[i]? = some n ∧ X.env.kindOf n = some .local
  | _, _ => False
inductive HdsA (X : Cx) : List ExceptHandler → List Cla → Prop
  | nil : HdsA X [] []
  | cons {x : Str} {n : Option Str} {o : Option Nat} {c : Value} {ts : Addr → Value → Option Addr → TS} {b₀ : Stmt} {suite : List Stmt} {np q : Pos} {hds : List ExceptHandler} {l : List Cla} (nm : NameAt X n o) (hc : Names X x c)
      (su : ∀ (a : Addr) (oe : Obj) (cls : Value) (d : Option Addr) (pn : List (Addr × Obj)), Zc cls d oe → (∃ vs, oe.data = .fields vs) → PSs (X.suite a ((a, oe) :: pn)) (b₀ :: suite) (ts a cls d)) (r : HdsA X hds l) :
      HdsA X (.ExceptHandler (some (.Name x np)) n (b₀ :: suite) q :: hds) ((c, o, ts) :: l)
/-- an exception lies at a, in the state s -/
structure Hit (X : Cx) (pins : List (Addr × Obj)) (σ : L2.St) (H : Hp) (a : Addr) (B : Heap) (cls : Value) (d : Option Addr) (s : Shared) : Prop where
  fly : HandSPX.FlyingZ B (X.env :: X.outer) a (Zc cls d) s.heap
  back : ∀ g, B.StaysIn g → s.heap.UpToSlots g → Inv X pins σ H { s with heap := g }
  free : H a = none
section
variable {X : Cx} {pins : List (Addr × Obj)} {σ : L2.St} {H : Hp} {a : Addr} {B : Heap} {cls : Value} {d : Option Addr} {s : Shared} {D : Ends}
/-- what a suite begins with, anywhere on the way -/
theorem Hit.lies (x : Hit X pins σ H a B cls d s) (hf : X.env.frame = some X.env.locals) {g : Heap} (f : HandSPX.FlyingZ B (X.env :: X.outer) a (Zc cls d) g) (up : s.heap.UpToSlots g) :
    ∃ oe vs, g.get? a = some oe ∧ Zc cls d oe ∧ oe.data = .fields vs ∧ Inv (X.suite a ((a, oe) :: (X.pn ++ pins))) [] σ H { s with heap := g } := by
  obtain ⟨oe, vs, lies, z, dat⟩ := f.there
  have e : frs (X.env :: X.outer) = X.env.locals :: X.fs := by
    show List.filterMap _ _ = _
    rw [List.filterMap_cons, hf]
    rfl
  have off : ∀ b ∈ X.env.locals :: X.fs, a ≠ b := fun b hb same => by
    obtain ⟨_, u, hu, clash⟩ := f.2.2.1.mem (e ▸ hb)
    rw [← same, lies] at hu
    cases hu
    exact clash _ dat
  exact ⟨oe, vs, lies, z, dat, (x.back g f.1 up).suite lies dat x.free (off _ List.mem_cons_self) fun h => off a (List.mem_cons_of_mem _ h) rfl⟩
/-- behind a suite without a name -/
theorem suite_end {q : Addr × Obj} {t : Shared} (ok : X.Ok) : ∀ {f : Flow}, SP (X.suite a (q :: (X.pn ++ pins))) [] D f t → SP X pins D f t
  | .next, ⟨_, _, i, r⟩ => ⟨_, _, i.unsuite ok, r⟩
  | .brk, ⟨_, _, i, r⟩ => ⟨_, _, i.unsuite ok, r⟩
  | .cont, ⟨_, _, i, r⟩ => ⟨_, _, i.unsuite ok, r⟩
  | .ret _, ⟨_, _, _, i, v, r⟩ => ⟨_, _, _, i.unsuite ok, v, r⟩
/-- behind a suite whose name goes -/
theorem suite_end_as {q : Addr × Obj} {t : Shared} {i : Nat} {n : Str} {p : Pos} (ok : X.Ok) (hN : X.N.Nodup) (nm : NameAt X (some n) (some i)) : ∀ {f : Flow},
    SP (X.suite a (q :: (X.pn ++ pins))) [] { nx := fun σ' H' => D.nx (σ'.set i none) H', rt := D.rt, bk := fun σ' H' => D.bk (σ'.set i none) H', ct := fun σ' H' => D.ct (σ'.set i none) H' } f t →
    wpAny (model X.prog X.w) X.A (do bindName X.env n .none; unbindBehindTheSuite X.env n p) (fun _ t' => SP X pins D f t') X.xe t
  | .next, ⟨_, _, j, r⟩ => gone_ok (j.unsuite ok) hN nm.1 nm.2 fun _ k => ⟨_, _, k, r⟩
  | .brk, ⟨_, _, j, r⟩ => gone_ok (j.unsuite ok) hN nm.1 nm.2 fun _ k => ⟨_, _, k, r⟩
  | .cont, ⟨_, _, j, r⟩ => gone_ok (j.unsuite ok) hN nm.1 nm.2 fun _ k => ⟨_, _, k, r⟩
  | .ret _, ⟨_, _, _, j, v, r⟩ => gone_ok (j.unsuite ok) hN nm.1 nm.2 fun _ k => ⟨_, _, _, k, v, r⟩
/-- the clauses, one after the other -/
theorem Hit.clauses (ok : X.Ok) (hf : X.env.frame = some X.env.locals) (hN : X.N.Nodup) {hds : List ExceptHandler} {l : List Cla} (hh : HdsA X hds l) (x : Hit X pins σ H a B cls d s) (w : wMA X.K D l cls d σ H) :
    wpAny (model X.prog X.w) X.A (handleBy (.ref a) X.env hds) (SP X pins D) X.xe s := by
  induction hh with
  | nil => exact w.elim
  | @cons c' n o c ts b₀ suite np q hds l nm hc su r ih =>
    obtain ⟨b, fits, yes, no⟩ := w
    obtain ⟨oe, vs, lies, z, dat, I0⟩ := x.lies hf x.fly fun _ o e _ => ⟨o.slots, e⟩
    have asked := PySem.W.exm_one (M := model X.prog X.w) I0.kIn (fun A Q E t k q => wpAny_typeOf_ref (k _ _ lies) (z.1.symm ▸ q)) fits
    refine wpAny_handleBy_cons (codeAny_handlers_test ?_) (fun h => by cases h)
    have look : ∀ {Q E}, Q c s → wpAny (model X.prog X.w) (X.A.mark (some (.ref a))) (eval (.Name c' np) X.env) Q E s := fun h => by
      rcases hc with ⟨g1, g2, g3 | ⟨g3, g4, g5⟩⟩
      · exact ld_glob (X := X.suite a ((a, oe) :: (X.pn ++ pins))) I0 g1 g3 h g2
      · exact ld_blt (X := X.suite a ((a, oe) :: (X.pn ++ pins))) I0 g1 g3 g4 h g5 g2
    refine look (asked.here ?_)
    cases b with
    | false => exact ih (no rfl)
    | true =>
      have go := yes rfl a x.free
      match n, o, nm with
      | none, none, _ =>
        refine codeAny_handlers_suite (HandSPX.lands_againZ x.fly fun g f up => ?_)
        obtain ⟨oe, vs, _, z, dat, I⟩ := x.lies hf f up
        exact wpAny_mono ((su a oe cls d _ z ⟨_, dat⟩).run [] _ _ H _ I go) (fun fl t h => by
          have h' := suite_end ok h
          cases fl <;> exact h') fun _ _ h => h.elim
      | some n, some i, nm =>
        refine codeAny_handlers_suite_as (HandSPX.lands_againZ x.fly fun g f up => ?_)
        obtain ⟨oe, vs, _, z, dat, I⟩ := x.lies hf f up
        refine store_ok (X := X.suite a ((a, oe) :: (X.pn ++ pins))) (v := .ref a) I hN nm.1 (.inl nm.2) rfl (fun t J => ?_) (.inr nm.2)
        exact wpAny_mono ((su a oe cls d _ z ⟨_, dat⟩).run [] t _ H _ J go) (fun fl t' h => by
          have h' := suite_end_as (p := q) ok hN nm h
          cases fl <;> exact h') fun _ _ h => h.elim
end
theorem ps_try_mas {X : Cx} {body : List Stmt} {h₀ : ExceptHandler} {hds : List ExceptHandler} {l : List Cla} {pos : Pos} {tb : WX → TS} (hs : X.stack = X.env :: X.outer) (hf : X.env.frame = some X.env.locals) (hN : X.N.Nodup)
    (hb : ∀ (W : WX) (pn : List (Addr × Obj)) (xe : Value → Shared → Prop), Takes (X.tr pn xe) W → PassesOwn (model X.prog X.w) X.A X.env xe → PSs (X.tr pn xe) body (tb W))
    (hh : HdsA X (h₀ :: hds) l) : PS X (.Try body (h₀ :: hds) [] [] pos) (fun D σ H => tb (wMA X.K D l) D σ H) := by
  refine ⟨fun pins s σ H D I h => wpAny_Try_except ?_⟩
  have ok := I.ok
  have done : ∀ {f : Flow} {t : Shared}, SP (X.tr (X.pn ++ pins) (fun e s₁ => wpAny (model X.prog X.w) X.A (noteFrame e X.env) (fun _ s₂ => wpAny (model X.prog X.w) X.A (setFlight e none) (fun _ s₃ => wpAny (model X.prog X.w) X.A (handleBy e X.env (h₀ :: hds)) (SP X pins D) X.xe s₃) X.xe s₂) X.xe s₁)) [] D f t → SP X pins D f t := fun {f t} h => match f, h with
    | .next, ⟨_, _, i, r⟩ => ⟨_, _, i.ofTry ok, r⟩
    | .brk, ⟨_, _, i, r⟩ => ⟨_, _, i.ofTry ok, r⟩
    | .cont, ⟨_, _, i, r⟩ => ⟨_, _, i.ofTry ok, r⟩
    | .ret _, ⟨_, _, _, i, v, r⟩ => ⟨_, _, _, i.ofTry ok, v, r⟩
  refine wpAny_mono ((hb (wMA X.K D l) _ _ (fun u t caught => ?_) PassesOwn.looking).run [] s σ H D (I.toTry _) h) (fun f t h => ?_) fun _ _ h => h
  · obtain ⟨a, B, t0, _, σ', H', cls, d, rfl, J, nb, up, sky, na, os, ag, w⟩ := caught
    have K := J.ofTry ok
    refine Sky.land Zc.steady (ok.frames.trans (congrArg some hs)) hf (hs ▸ sky) fun g f up' => ?_
    exact Hit.clauses ok hf hN hh (s := { t with heap := g }) ⟨f, fun g' st up'' => K.landed nb st ((up.trans up').trans up'') os ag, na⟩ w
  · have h' := done h
    cases f with
    | next => exact wpAny_execs_nil h'
    | brk => exact h'
    | cont => exact h'
    | ret _ => exact h'
/-- which errors are caught -/
structure Ca (K : PySem.W.Frag) (mg : Str → Option Value) (x : Str) (C : Addr) (fld : Str) : Prop where
  g : mg x = some (.ref C)
  te : PySem.W.exmOne K (.ref C) (.ref C) = some true
  xf : XfC K C
  no : PySem.W.findIn K (.ref C) fld = some none
  ec : ExcC K C
end Bk
set_option Elab.async false
set_option linter.all false
set_option maxRecDepth 100000
namespace Bk
open PySem PySem.Spec PyProof.Rows L2
open Cf (Step Star Nf)
theorem left_pos {rs : List (Str × Str)} (g : Good rs) {p : Str × Str} (hp : p ∈ rs) : 0 < (cl p.1).length := by
  have := (g p hp).2.2
  rw [len_cl]; omega
theorem txs_eq : ∀ {a b : List (List Nat)}, a.Pairwise (fun x y => txLe x y = true) → b.Pairwise (fun x y => txLe x y = true) → a.Nodup → b.Nodup → (∀ k, k ∈ a ↔ k ∈ b) → a = b
  | [], [], _, _, _, _, _ => rfl
  | [], y :: ys, _, _, _, _, h => absurd ((h y).mpr List.mem_cons_self) (by simp)
  | x :: xs, [], _, _, _, _, h => absurd ((h x).mp List.mem_cons_self) (by simp)
  | x :: xs, y :: ys, ha, hb, na, nb, h => by
    obtain ⟨ha1, ha2⟩ := List.pairwise_cons.mp ha
    obtain ⟨hb1, hb2⟩ := List.pairwise_cons.mp hb
    obtain ⟨na1, na2⟩ := List.nodup_cons.mp na
    obtain ⟨nb1, nb2⟩ := List.nodup_cons.mp nb
    have hxy : x = y := by
      rcases List.mem_cons.mp ((h x).mp List.mem_cons_self) with e | e
      · exact e
      · rcases List.mem_cons.mp ((h y).mpr List.mem_cons_self) with e2 | e2
        · exact e2.symm
        · exact txLe_anti (ha1 y e2) (hb1 x e)
    subst hxy
    congr 1
    refine txs_eq ha2 hb2 na2 nb2 fun k => ⟨fun hk => ?_, fun hk => ?_⟩
    · rcases List.mem_cons.mp ((h k).mp (List.mem_cons_of_mem _ hk)) with e | e
      · rw [e] at hk; exact absurd hk na1
      · exact e
    · rcases List.mem_cons.mp ((h k).mpr (List.mem_cons_of_mem _ hk)) with e | e
      · rw [e] at hk; exact absurd hk nb1
      · exact e
/-! texts in their order -/
def sortedB : List (List Nat) → Bool
  | [] => true
  | [_] => true
  | x :: y :: r => txLe x y && sortedB (y :: r)
theorem clAs {i : Nat} {ts : Addr → Value → Option Addr → TS} {a : Addr} {cls : Value} {d : Option Addr} {D : Ends} {σ : L2.St} {H : Hp} (h : ts a cls d { nx := fun σ' H' => D.nx (σ'.set i none) H', rt := D.rt, bk := fun σ' H' => D.bk (σ'.set i none) H', ct := fun σ' H' => D.ct (σ'.set i none) H' } (σ.set i (some (.ref a))) H) : clA (some i) ts a cls d D σ H := h
theorem callS {sp : Sp} {E : L2.St → XK} {t : TA} {σ : L2.St} {H : Hp} {Q : VK} (h : t σ H fun vs H1 => sp vs H1 Q (E σ)) : tCallS sp E t σ H Q := h
theorem notL {K : PySem.W.Frag} {ta : TE} {σ : L2.St} {H : Hp} {Q : VK} (h : ta σ H fun x H1 => ∃ k, TruV K x H1 k ∧ Q (.bl (!k)) H1) : tNotT K ta σ H Q := h
end Bk
set_option Elab.async false
set_option linter.all false
set_option maxRecDepth 100000
set_option maxHeartbeats 2000000
namespace Bk
open PySem PySem.Spec PyProof.Rows L2
/-! sorted by a key that a def of the text gives -/
/-- an object of ours that nothing else holds -/
structure Off (X : Cx) (pins : List (Addr × Obj)) (H : Hp) (a : Addr) : Prop where
  free : H a = none
  new : X.s_0.heap.objs.size ≤ a
  loc : a ≠ X.env.locals
  cel : ∀ x c, X.env.cells.lookup x = some c → c ≠ a
  pin : ∀ p ∈ X.pn ++ pins, p.1 ≠ a
  fs : a ∉ X.fs
section
variable {X : Cx} {pins : List (Addr × Obj)} {σ : L2.St} {H : Hp} {s : Shared}
theorem Off.tr {H' : Hp} {a : Addr} (x : Off X pins H a) (h : H' a = none) : Off X pins H' a := ⟨h, x.new, x.loc, x.cel, x.pin, x.fs⟩
theorem Off.more {a : Addr} {p : Addr × Obj} (x : Off X pins H a) (h : p.1 ≠ a) : Off X (p :: pins) H a :=
  ⟨x.free, x.new, x.loc, x.cel, fun q hq => by
    rcases List.mem_append.mp hq with z | z
    · exact x.pin q (List.mem_append_left _ z)
    · rcases List.mem_cons.mp z with z | z
      · rw [z]; exact h
      · exact x.pin q (List.mem_append_right _ z), x.fs⟩
end
/-- what is asked of the def f: that it tells the key of each item, whatever else has been made meanwhile -/
def Keys (K : PySem.W.Frag) (sp : Sp) (k : V → PyData) (vs : List V) (H : Hp) : Prop := ∀ v ∈ vs, ∀ H1, Same H H1 → sp [v] H1 (fun y H2 => Same H1 H2 ∧ Dp K H2 y (k v)) E0
abbrev byKey (k : V → PyData) (vs : List V) : List V := vs.mergeSort (PySem.W.dataLe false k)
section
variable {X : Cx} {pins : List (Addr × Obj)} {σ : L2.St} {H : Hp} {s : Shared} {A : Around} {n : Nat} {f : Addr} {fd : FuncData} {ps : List Str} {sp : Sp} {k : V → PyData} {vs : List V} {us : List Value} {P : PySem.Fin → Shared → Prop} {E : Value → Shared → Prop}
end
end Bk
namespace Bk
open PySem PySem.Spec PyProof.Rows L2
/-- the keys can be compared -/
structure KeyOk (k : V → PyData) (vs : List V) : Prop where
  al : PySem.W.AllAlike (vs.map k)
  so : PySem.W.Sortable (vs.map k)
  dp : ∀ v ∈ vs, (k v).depth ≤ 60
def rSortK (K : PySem.W.Frag) (f : Addr) (sp : Sp) : List V → List V → Hp → VK → Prop := fun xs zs H Q => ∃ a vs k, xs = [V.ref a] ∧ zs = [V.ref f] ∧ SqL K H a vs ∧ KeyOk k vs ∧ Keys K sp k vs H ∧ ∀ H' p, Same H H' → H' p = none → Q (.ref p) (upd H' p (.lst (byKey k vs)))
def rSortKD (K : PySem.W.Frag) (f : Addr) (sp : Sp) : List V → List V → Hp → VK → Prop := fun xs zs H Q => ∃ a kvs k, xs = [V.ref a] ∧ zs = [V.ref f] ∧ Rd H a (.dK kvs) ∧ (∀ kv ∈ kvs, ∃ x, kv.1 = Sum.inr x) ∧ KeyOk k (kvs.map fun kv => kV kv.1) ∧ Keys K sp k (kvs.map fun kv => kV kv.1) H ∧
  ∀ H' p, Same H H' → H' p = none → Q (.ref p) (upd H' p (.lst (byKey k (kvs.map fun kv => kV kv.1))))
section
variable {X : Cx} {n : Nat} {f : Addr} {fd : FuncData} {ps : List Str} {sp : Sp}
end
theorem ckw {r : List V → List V → Hp → VK → Prop} {t tk : TA} {σ : L2.St} {H : Hp} {Q : VK} (h : t σ H fun vs H1 => tk σ H1 fun zs H2 => r vs zs H2 Q) : tCKw r t tk σ H Q := h
end Bk
set_option Elab.async false
set_option linter.all false
set_option maxRecDepth 100000
namespace Bk
open PySem PySem.Spec PyProof.Rows L2
open Cf (Step Star Nf)
/-- the key of a text: its length, the text -/
def tkey : V → PyData
  | .str x => tx2 x
  | _ => .int 0
end Bk
set_option Elab.async false
set_option linter.all false
set_option maxRecDepth 100000
namespace Bk
open PySem PySem.Spec PyProof.Rows L2
/-! x not in a tuple -/
def rNinT (K : PySem.W.Frag) : R2 := fun x y H Q => ∃ d ds, Dp K H x d ∧ Dp K H y (.tuple ds) ∧ SeqAt.shaped d = true ∧ SeqAt.shaped (.tuple ds) = true ∧ Q (.bl (!ds.any fun z => PyData.eqv z d)) H
/-! the order of overlaps -/
def rowD (o : Ov) : PyData := .tuple [.str o.1, .int (o.2.1 : Nat), .int (o.2.2.1 : Nat), .int (o.2.2.2 : Nat)]
def keyD (o : Ov) : PyData := .tuple [.int (o.1.length : Nat), rowD o]
def leO (a b : Ov) : Bool := !PySem.W.dataLt (ov5 b) (ov5 a)
/-- all overlaps, ascending -/
def ovDue (rs : List (Str × Str)) : List Ov := (ovAll rs).mergeSort leO
theorem OvSorted.eq {os all : List Ov} (h : OvSorted os all) : os = all.mergeSort leO := by
  obtain ⟨ws, hl, e⟩ := h.sorted
  have hm : ∀ q ∈ ws.zip (all.map ov5), ∃ o, q.2 = ov5 o := fun q hq => by
    obtain ⟨o, _, e⟩ := List.mem_map.mp (List.of_mem_zip (show (q.1, q.2) ∈ ws.zip (all.map ov5) from hq)).2
    exact ⟨o, e.symm⟩
  have idm : ∀ l : List Ov, (l.map ov5).map dec5 = l := fun l => by
    rw [List.map_map]
    exact (List.map_congr_left (g := id) fun o _ => dec5_ov5 o).trans (List.map_id _)
  have e1 : os = ((ws.zip (all.map ov5)).mergeSort (PySem.W.dataLe false Prod.snd)).map fun q => dec5 q.2 := by
    have := congrArg (List.map dec5) e
    rw [idm, List.map_map] at this
    exact this
  have e2 : (ws.zip (all.map ov5)).map (fun q => dec5 q.2) = all := by
    have : ((ws.zip (all.map ov5)).map Prod.snd).map dec5 = all := by
      rw [List.map_snd_zip (by rw [List.length_map]; omega), idm]
    rwa [List.map_map] at this
  rw [e1, List.map_mergeSort (s := leO), e2]
  intro a ha b hb
  obtain ⟨x, ex⟩ := hm a ha
  obtain ⟨y, ey⟩ := hm b hb
  show (!PySem.W.dataLt b.2 a.2) = leO (dec5 a.2) (dec5 b.2)
  rw [ex, ey, dec5_ov5, dec5_ov5]; rfl
/-! overlaps as rows of a list -/
abbrev rowV (o : Ov) : List V := [.str o.1, .int (o.2.1 : Nat), .int (o.2.2.1 : Nat), .int (o.2.2.2 : Nat)]
def OvRows (H : Hp) : List Addr → List Ov → Prop
  | [], [] => True
  | b :: bs, o :: os => H b = some (.tup (rowV o)) ∧ OvRows H bs os
  | _, _ => False
theorem OvRows.len {H : Hp} : ∀ {bs : List Addr} {os : List Ov}, OvRows H bs os → bs.length = os.length
  | [], [], _ => rfl
  | _ :: _, _ :: _, h => by rw [List.length_cons, List.length_cons, h.2.len]
  | [], _ :: _, h => h.elim
  | _ :: _, [], h => h.elim
theorem OvRows.keep {H H' : Hp} (k : ∀ b xs, H b = some (.tup xs) → H' b = some (.tup xs)) : ∀ {bs : List Addr} {os : List Ov}, OvRows H bs os → OvRows H' bs os
  | [], [], _ => trivial
  | _ :: _, _ :: _, h => ⟨k _ _ h.1, h.2.keep k⟩
  | [], _ :: _, h => h.elim
  | _ :: _, [], h => h.elim
theorem OvRows.app {H : Hp} {T : Addr} {o : Ov} (hT : H T = some (.tup (rowV o))) : ∀ {bs : List Addr} {os : List Ov}, OvRows H bs os → OvRows H (bs ++ [T]) (os ++ [o])
  | [], [], _ => ⟨hT, trivial⟩
  | _ :: _, _ :: _, h => ⟨h.1, h.2.app hT⟩
  | [], _ :: _, h => h.elim
  | _ :: _, [], h => h.elim
def decH (H : Hp) : V → Ov
  | .ref T => match H T with
    | some (.tup [.str z, .int i, .int p, .int j]) => (z, i.toNat, p.toNat, j.toNat)
    | _ => ("", 0, 0, 0)
  | _ => ("", 0, 0, 0)
def keyV (H : Hp) (v : V) : PyData := keyD (decH H v)
/-! how the law finds them -/
def lawT (l : Str) (p : Nat) (o : Str) : List Nat := (cl l ++ (cl o).drop (l.length - p)).take (max l.length (p + o.length))
def lawF (l : Str) (p : Nat) (o : Str) : Bool := decide (((lawT l p o).drop p).take o.length = cl o) && decide ((lawT l p o).take l.length = cl l)
/-- the overlaps of two rules, place by place -/
def lawCell (i j : Nat) (l o : Str) (k : Nat) : List Ov := (List.range k).flatMap fun p => if 0 < p ∨ i < j then ovAt i j l o p else []
theorem lawCell_all {i j : Nat} {l o : Str} : lawCell i j l o l.length = ovCellTo i j l o (l.length - ovStart i j) := by
  unfold lawCell ovCellTo ovStart
  by_cases h : i < j
  · rw [if_pos h, Nat.sub_zero]
    congr 1
    funext p
    rw [if_pos (.inr h), Nat.zero_add]
  · rw [if_neg h]
    cases hl : l.length with
    | zero => rfl
    | succ n =>
      rw [List.range_succ_eq_map, List.flatMap_cons, if_neg (by omega), List.nil_append, Nat.add_sub_cancel, List.flatMap_map]
      congr 1
      funext p
      show (if 0 < p + 1 ∨ i < j then ovAt i j l o (p + 1) else []) = ovAt i j l o (1 + p)
      rw [if_pos (.inl (by omega)), Nat.add_comm]
end Bk
set_option Elab.async false
set_option linter.all false
set_option maxRecDepth 100000
namespace Bk
open PySem PySem.Spec PyProof.Rows L2
open Cf (Step Star Nf)
/-! a dict of texts: no key twice -/
structure KeyN (kvs : List (Key × V)) : Prop where
  nd : (kvs.map (·.1)).Nodup
  st : ∀ kv ∈ kvs, ∃ y, kv.1 = Sum.inr y
theorem putK_new {kvs : List (Key × V)} {k : Key} {v : V} (h : valV kvs k = none) : putK kvs k v = kvs ++ [(k, v)] := by
  have e : (kvs.any fun kv => decide (kv.1 = k)) = false := by rw [valV_any, h]; rfl
  unfold putK
  rw [e, if_neg Bool.false_ne_true]
theorem putK_old {kvs : List (Key × V)} {k : Key} {v : V} (h : (valV kvs k).isSome = true) : (putK kvs k v).map (·.1) = kvs.map (·.1) := by
  have e : (kvs.any fun kv => decide (kv.1 = k)) = true := by rw [valV_any]; exact h
  unfold putK
  rw [e, if_pos rfl, List.map_map]
  refine List.map_congr_left fun kv _ => ?_
  show (if kv.1 = k then (kv.1, v) else kv).1 = kv.1
  split <;> rfl
theorem KeyN.put {kvs : List (Key × V)} {x : Str} {v : V} (h : KeyN kvs) : KeyN (putK kvs (Sum.inr x) v) := by
  cases e : valV kvs (Sum.inr x) with
  | none =>
    have en : ∀ kv ∈ kvs, kv.1 ≠ Sum.inr x := fun kv hk z => by
      have h2 : (kvs.any fun kv => decide (kv.1 = Sum.inr x)) = false := by rw [valV_any, e]; rfl
      rw [List.any_eq_false] at h2
      exact h2 kv hk (by simp [z])
    rw [putK_new e]
    refine ⟨?_, fun kv hk => ?_⟩
    · rw [List.map_append]
      refine List.nodup_append.mpr ⟨h.nd, by simp, fun a ha b hb z => ?_⟩
      obtain ⟨kv, hk, rfl⟩ := List.mem_map.mp ha
      rw [List.mem_singleton.mp hb] at z
      exact en kv hk z
    · rcases List.mem_append.mp hk with z | z
      · exact h.st kv z
      · rw [List.mem_singleton.mp z]; exact ⟨x, rfl⟩
  | some w =>
    have ek := putK_old (v := v) (show (valV kvs (Sum.inr x)).isSome = true by rw [e]; rfl)
    refine ⟨by rw [ek]; exact h.nd, fun kv hk => ?_⟩
    have h1 : kv.1 ∈ kvs.map (·.1) := by rw [← ek]; exact List.mem_map.mpr ⟨kv, hk, rfl⟩
    obtain ⟨kv2, h2, h3⟩ := List.mem_map.mp h1
    rw [← h3]
    exact h.st kv2 h2
/-- the texts of a dict -/
def txOf : Key → List Nat
  | Sum.inr x => cl x
  | Sum.inl _ => []
def txsOf (kvs : List (Key × V)) : List (List Nat) := kvs.map fun kv => txOf kv.1
theorem KeyN.mem {kvs : List (Key × V)} (h : KeyN kvs) {u : List Nat} : u ∈ txsOf kvs ↔ fnd kvs u := by
  unfold fnd txsOf
  rw [← valV_any, List.any_eq_true, List.mem_map]
  constructor
  · rintro ⟨kv, h1, h2⟩
    obtain ⟨y, e⟩ := h.st kv h1
    rw [e] at h2
    have h3 : cl y = u := h2
    exact ⟨kv, h1, by rw [e, ← h3, mk_cl]; simp⟩
  · rintro ⟨kv, h1, h2⟩
    have h3 : kv.1 = Sum.inr (mkS u) := by simpa using h2
    exact ⟨kv, h1, by rw [h3]; exact cl_mk u⟩
theorem KeyN.one (z : Str) (v : V) : KeyN [((Sum.inr z : Key), v)] := ⟨by simp, fun kv hk => by rw [List.mem_singleton.mp hk]; exact ⟨z, rfl⟩⟩
theorem fnd_one (z : Str) (v : V) {u : List Nat} : fnd [((Sum.inr z : Key), v)] u ↔ u = cl z := by
  unfold fnd valV
  by_cases h : u = cl z
  · subst h
    rw [mk_cl]; simp
  · have hne : ¬ ((Sum.inr z : Key) = Sum.inr (mkS u)) := fun h2 => h (by rw [Sum.inr.inj h2, cl_mk])
    simp [hne, h]
/-! all texts to which a text shrinks -/
structure BelowL (rs : List (Str × Str)) (z : List Nat) (us : List (List Nat)) : Prop where
  srt : us.Pairwise fun x y => txLe x y = true
  nd : us.Nodup
  mem : ∀ u, u ∈ us ↔ Star (RR rs) z u
theorem BelowL.eq {rs : List (Str × Str)} {z : List Nat} {us vs : List (List Nat)} (h : BelowL rs z us) (k : BelowL rs z vs) : us = vs := txs_eq h.srt k.srt h.nd k.nd fun u => by rw [h.mem, k.mem]
/-- where they lie: the text itself, or shorter ones -/
def lower (sg z : List Nat) : List (List Nat) := z :: endsUp [] sg 6
/-! the search, with a flag for each text -/
theorem fnd_same {kvs : List (Key × V)} {u w : List Nat} {v : V} (h : fnd kvs u) : fnd (putK kvs (Sum.inr (mkS u)) v) w ↔ fnd kvs w := by
  rw [fnd_put]
  exact ⟨fun z => z.elim (fun e => by rw [e]; exact h) id, .inr⟩
theorem Rch.over {rs : List (Str × Str)} {all : List (List Nat)} {z u0 : List Nat} {ok ex : List Nat → Prop} {kvs : List (Key × V)} {wl : List (List Nat)} {v : V} (x : Rch rs all z ok kvs wl ex) (h : fnd kvs u0) :
    Rch rs all z ok (putK kvs (Sum.inr (mkS u0)) v) wl ex ∧ unf all (putK kvs (Sum.inr (mkS u0)) v) = unf all kvs := by
  have hl : (putK kvs (Sum.inr (mkS u0)) v).length = kvs.length := by
    have := congrArg List.length (putK_old (v := v) (show (valV kvs (Sum.inr (mkS u0))).isSome = true from h))
    simpa using this
  have hu : unf all (putK kvs (Sum.inr (mkS u0)) v) = unf all kvs := by
    unfold unf
    congr 1
    refine List.filter_congr fun w _ => ?_
    rw [decide_eq_decide.mpr (fnd_same h)]
  exact ⟨⟨fun u hu => x.st u ((fnd_same h).mp hu), fun u hu => (fnd_same h).mpr (x.w u hu), fun u hu hw => (x.c u ((fnd_same h).mp hu) hw).imp id fun ⟨a, b⟩ => ⟨a, fun w hw => (fnd_same h).mpr (b w hw)⟩, (fnd_same h).mpr x.z, by rw [hl, hu]; exact x.sz, by rw [hl]; exact x.wz⟩, hu⟩
/-- whether no rule fits, by the steps -/
def endB (rs : List (Str × Str)) (u : List Nat) : Bool := (stepsL rs u).isEmpty
/-- how many keys a dict has -/
def rLenD : List V → Hp → VK → Prop := fun xs H Q => ∃ (p : Addr) (kvs : List (Key × V)), xs = [.ref p] ∧ H p = some (.dK kvs) ∧ Q (.int ((kvs.length : Nat) : Int)) H
end Bk
set_option Elab.async false
set_option linter.all false
set_option maxRecDepth 100000
namespace Bk
open PySem PySem.Spec PyProof.Rows L2
open Cf (Step Star Nf)
/-! where a step leads, by its place and number -/
def aimOf (rs : List (Str × Str)) (u : List Nat) (p : Nat × Nat) : List Nat := u.take p.1 ++ cl (rt rs p.2) ++ u.drop (p.1 + (lf rs p.2).length)
/-! the flags -/
def Flag (rs : List (Str × Str)) (kvs : List (Key × V)) (wl : List (List Nat)) : Prop := ∀ u v, valV kvs (Sum.inr (mkS u)) = some v → v = .bl (if u ∈ wl then true else endB rs u)
def FlagAt (rs : List (Str × Str)) (kvs : List (Key × V)) (wl : List (List Nat)) (u0 : List Nat) (i : Nat) : Prop := ∀ u v, valV kvs (Sum.inr (mkS u)) = some v → v = .bl (if u ∈ wl then true else if u = u0 then decide (i = 0) else endB rs u)
theorem Flag.pop {rs : List (Str × Str)} {kvs : List (Key × V)} {wl : List (List Nat)} {u0 : List Nat} (h : Flag rs kvs (wl ++ [u0])) : FlagAt rs kvs wl u0 0 := fun u v e => by
  rw [h u v e]
  by_cases h1 : u ∈ wl
  · rw [if_pos h1, if_pos (List.mem_append_left _ h1)]
  · rw [if_neg h1]
    by_cases h2 : u = u0
    · rw [if_pos h2, if_pos (List.mem_append_right _ (List.mem_singleton.mpr h2))]; rfl
    · rw [if_neg h2, if_neg fun z => (List.mem_append.mp z).elim h1 fun y => h2 (List.mem_singleton.mp y)]
theorem FlagAt.off {rs : List (Str × Str)} {kvs : List (Key × V)} {wl : List (List Nat)} {u0 : List Nat} {i : Nat} (h : FlagAt rs kvs wl u0 i) (hw : u0 ∉ wl) : FlagAt rs (putK kvs (Sum.inr (mkS u0)) (.bl false)) wl u0 (i + 1) := fun u v e => by
  rw [valV_put] at e
  by_cases h2 : u = u0
  · subst h2
    rw [if_pos rfl] at e
    cases e
    rw [if_neg hw, if_pos rfl]; simp
  · rw [if_neg fun z => h2 (mk_iff.mp (Sum.inr.inj z))] at e
    rw [h u v e, if_neg h2, if_neg h2]
theorem FlagAt.push {rs : List (Str × Str)} {kvs : List (Key × V)} {wl : List (List Nat)} {u0 w : List Nat} {i : Nat} (h : FlagAt rs kvs wl u0 i) : FlagAt rs (putK kvs (Sum.inr (mkS w)) (.bl true)) (wl ++ [w]) u0 i := fun u v e => by
  rw [valV_put] at e
  by_cases h2 : u = w
  · subst h2
    rw [if_pos rfl] at e
    cases e
    rw [if_pos (List.mem_append_right _ (List.mem_singleton.mpr rfl))]
  · rw [if_neg fun z => h2 (mk_iff.mp (Sum.inr.inj z))] at e
    rw [h u v e]
    by_cases h1 : u ∈ wl
    · rw [if_pos h1, if_pos (List.mem_append_left _ h1)]
    · rw [if_neg h1, if_neg fun z => (List.mem_append.mp z).elim h1 fun y => h2 (List.mem_singleton.mp y)]
theorem FlagAt.done {rs : List (Str × Str)} {kvs : List (Key × V)} {wl : List (List Nat)} {u0 : List Nat} {i : Nat} (h : FlagAt rs kvs wl u0 i) (hi : i = (stepsL rs u0).length) : Flag rs kvs wl := fun u v e => by
  rw [h u v e]
  by_cases h1 : u ∈ wl
  · rw [if_pos h1, if_pos h1]
  · rw [if_neg h1, if_neg h1]
    by_cases h2 : u = u0
    · subst h2
      rw [if_pos rfl, hi]
      unfold endB
      congr 1
      cases stepsL rs u <;> simp
    · rw [if_neg h2]
theorem Flag.one (rs : List (Str × Str)) (z : Str) : Flag rs [((Sum.inr z : Key), V.bl true)] [cl z] := fun u v e => by
  have hf : fnd [((Sum.inr z : Key), V.bl true)] u := by unfold fnd; rw [e]; rfl
  have hu := (fnd_one z _).mp hf
  subst hu
  rw [mk_cl] at e
  have e2 : valV [((Sum.inr z : Key), V.bl true)] (Sum.inr z) = some (.bl true) := by simp [valV]
  rw [e2] at e
  cases e
  rw [if_pos (List.mem_singleton.mpr rfl)]
end Bk
set_option Elab.async false
set_option linter.all false
set_option maxRecDepth 100000
namespace Bk
open PySem PySem.Spec PyProof.Rows L2
open Cf (Step Star Nf)
/-! a call of one of two functions, by a name that holds it -/
def tCallV (f₁ f₂ : Addr) (sp₁ sp₂ : Sp) (E : L2.St → XK) (tf : TE) (t : TA) : TE := fun σ H Q => tf σ H fun y H1 => (y = V.ref f₁ ∧ t σ H1 fun vs H2 => sp₁ vs H2 Q (E σ)) ∨ (y = V.ref f₂ ∧ t σ H1 fun vs H2 => sp₂ vs H2 Q (E σ))
/-! x in a tuple -/
def rInT (K : PySem.W.Frag) : R2 := fun x y H Q => ∃ d ds, Dp K H x d ∧ Dp K H y (.tuple ds) ∧ SeqAt.shaped d = true ∧ SeqAt.shaped (.tuple ds) = true ∧ Q (.bl (ds.any fun z => PyData.eqv z d)) H
/-! a text some times over -/
def rRepS : R2 := fun x y H Q => ∃ z n, x = .str z ∧ y = .int n ∧ MulOk z n ∧ Q (.str (Txt.mul z n)) H
theorem wo_repS {X : Cx} : OpR X (binaryOp .Mult) rRepS := by
  rintro pins s σ H x y v u Q I rx ry ⟨z, n, rfl, rfl, hok, q⟩
  obtain ⟨t, rfl⟩ := rx
  obtain ⟨t', rfl⟩ := ry
  exact SB.mul hok fun t2 k => ⟨.str _, H, I.tok _, ⟨_, rfl⟩, q⟩
theorem nodup_le {α : Type} [DecidableEq α] : ∀ {us vs : List α}, us.Nodup → (∀ x ∈ us, x ∈ vs) → us.length ≤ vs.length
  | [], _, _, _ => Nat.zero_le _
  | u :: us, vs, nd, h => by
    obtain ⟨n1, n2⟩ := List.nodup_cons.mp nd
    obtain ⟨s, t, rfl⟩ := List.append_of_mem (h u List.mem_cons_self)
    have := nodup_le (vs := s ++ t) n2 fun x hx => by
      rcases List.mem_append.mp (h x (List.mem_cons_of_mem _ hx)) with z | z
      · exact List.mem_append_left _ z
      · rcases List.mem_cons.mp z with z | z
        · exact absurd (z ▸ hx) n1
        · exact List.mem_append_right _ z
    rw [List.length_append] at this ⊢
    simp only [List.length_cons]; omega
/-! the texts below (ab)(ab).. when a and b go away -/
/-- texts that are read off a row in which two signs take turns: the sign of the turn costs one, the other one two -/
def cheap (a b : Nat) : Nat → List (List Nat)
  | 0 => [[]]
  | 1 => [[], [a]]
  | n + 2 => [] :: ((cheap b a (n + 1)).map (a :: ·) ++ (cheap a b n).map (b :: ·))
def turns (a b : Nat) : Nat → List Nat
  | 0 => []
  | n + 1 => a :: turns b a n
/-- the book in which both signs go away -/
def tall : List (Str × Str) := [("a", ""), ("b", "")]
end Bk
set_option Elab.async false
set_option linter.all false
set_option maxRecDepth 100000
set_option maxHeartbeats 1000000
namespace Bk
open PySem PySem.Spec PyProof.Rows L2
open Cf (Step Star Nf Meets)
/-! a book whose overlaps all meet is settled -/
theorem ov_in {rs : List (Str × Str)} {i j p : Nat} {l r l2 r2 z : Str} (e1 : rs[i]? = some (l, r)) (e2 : rs[j]? = some (l2, r2)) (hp : p < l.length) (h0 : 0 < p ∨ i < j) (h : ovText l (p : Nat) l2 = some z) : (z, i, p, j) ∈ ovAll rs := by
  have hi := (List.getElem?_eq_some_iff.mp e1).1
  have hj := (List.getElem?_eq_some_iff.mp e2).1
  refine List.mem_flatMap.mpr ⟨i, List.mem_range.mpr hi, List.mem_flatMap.mpr ⟨j, List.mem_range.mpr hj, ?_⟩⟩
  unfold ovCell
  rw [lf_of e1, lf_of e2, ← lawCell_all]
  refine List.mem_flatMap.mpr ⟨p, List.mem_range.mpr hp, ?_⟩
  rw [if_pos h0]
  unfold ovAt
  rw [h]
  exact List.mem_singleton.mpr rfl
theorem ovText_over {l o : Str} {a b c : List Nat} (hl : cl l = a ++ b) (ho : cl o = b ++ c) : ovText l (a.length : Nat) o = some (mkS (a ++ b ++ c)) := by
  have h1 := len_cl l
  have h2 := len_cl o
  rw [hl, List.length_append] at h1
  rw [ho, List.length_append] at h2
  unfold ovText
  rw [bothOf_nat (by omega), show min (l.length - a.length) o.length = b.length by omega]
  rw [cutS_mid (z := l) a.length (a.length + b.length) rfl (by omega) (by omega), cutS_hi (z := o) b.length rfl, cutS_lo (z := o) b.length rfl, hl, ho, List.drop_left, Nat.add_sub_cancel_left, List.take_length, List.take_left, List.drop_left, if_pos rfl]
  congr 1
  rw [← mk_cl (l ++ mkS c), cl_app, cl_mk, hl]
theorem ovText_inside {l o : Str} {a c : List Nat} (hl : cl l = a ++ cl o ++ c) : ovText l (a.length : Nat) o = some l := by
  have h1 := len_cl l
  have h2 := len_cl o
  rw [hl, List.length_append, List.length_append] at h1
  unfold ovText
  rw [bothOf_nat (by omega), show min (l.length - a.length) o.length = o.length by omega]
  rw [cutS_mid (z := l) a.length (a.length + o.length) rfl (by omega) (by omega), cutS_hi (z := o) o.length rfl, cutS_lo (z := o) o.length rfl, hl, List.append_assoc, List.drop_left, Nat.add_sub_cancel_left, ← h2, List.take_left, List.take_length, List.drop_length, if_pos rfl]
  congr 1
theorem meets_iff {rs : List (Str × Str)} {i j p : Nat} {l r l2 r2 z : Str} (e1 : rs[i]? = some (l, r)) (e2 : rs[j]? = some (l2, r2)) : meets rs (z, i, p, j) ↔ overP rs (cl (usedS z 0 l r)) = overP rs (cl (usedS z (p : Nat) l2 r2)) := by
  unfold meets
  simp only
  rw [lf_of e1, rt_of e1, lf_of e2, rt_of e2]
theorem set_of_meets {rs : List (Str × Str)} (g : Good rs) (h : ∀ o ∈ ovAll rs, meets rs o) : Settled rs := by
  have at0 : ∀ {z l r : Str} {y : List Nat}, cl z = cl l ++ y → cl (usedS z 0 l r) = cl r ++ y := fun {z l r y} e => by
    have := cl_used (z := z) (l := l) (r := r) (x := []) (y := y) (k := 0) (by simpa using e) rfl
    simpa using this
  have same : ∀ {i j : Nat} {l r l2 r2 : Str}, rs[i]? = some (l, r) → rs[j]? = some (l2, r2) → ∀ {a b c : List Nat}, cl l = a ++ b → cl l2 = b ++ c → b ≠ [] → overP rs (cl r ++ c) = overP rs (a ++ cl r2) := by
    intro i j l r l2 r2 e1 e2 a b c hl ho hb
    have hbl : 0 < b.length := List.length_pos_iff.mpr hb
    have h1 := len_cl l
    rw [hl, List.length_append] at h1
    have h2 := len_cl l2
    rw [ho, List.length_append] at h2
    by_cases h0 : 0 < a.length ∨ i < j
    · have m := (meets_iff e1 e2).mp (h _ (ov_in e1 e2 (by omega) h0 (ovText_over hl ho)))
      rw [at0 (y := c) (by rw [cl_mk, hl]), cl_used (x := a) (y := []) (k := (a.length : Nat)) (by rw [cl_mk, ho]; simp) rfl, List.append_nil] at m
      exact m
    · have ha : a = [] := List.length_eq_zero_iff.mp (by omega)
      subst ha
      by_cases hij : i = j
      · subst hij
        rw [e1] at e2
        cases e2
        rw [hl] at ho
        have hc : c = [] := by
          have := congrArg List.length ho
          rw [List.length_append, List.length_append] at this
          exact List.length_eq_zero_iff.mp (by simp at this; omega)
        subst hc
        simp
      · have hl' : cl l2 = [] ++ cl l ++ c := by rw [hl, ho]; simp
        have m := (meets_iff e2 e1).mp (h _ (ov_in (p := 0) e2 e1 (by omega) (.inr (by omega)) (ovText_inside hl')))
        rw [at0 (y := []) (by simp)] at m
        have e9 := at0 (z := l2) (l := l) (r := r) (y := c) (by rw [hl']; simp)
        rw [show (((0 : Nat) : Int)) = 0 from rfl, e9] at m
        simpa using m.symm
  refine ⟨?_, ?_⟩
  · rintro l1 r1 l2 r2 a b c ⟨p, hp, e1, e2⟩ ⟨q, hq, e3, e4⟩ hb el1 el2
    obtain ⟨i, hi, ei⟩ := List.getElem_of_mem hp
    obtain ⟨j, hj, ej⟩ := List.getElem_of_mem hq
    have := same (i := i) (j := j) (l := p.1) (r := p.2) (l2 := q.1) (r2 := q.2) (by rw [List.getElem?_eq_getElem hi, ei]) (by rw [List.getElem?_eq_getElem hj, ej]) (by rw [e1]; exact el1) (by rw [e3]; exact el2) hb
    rw [e2, e4] at this
    exact this
  · rintro l1 r1 l2 r2 a c ⟨p, hp, e1, e2⟩ ⟨q, hq, e3, e4⟩ el1
    obtain ⟨i, hi, ei⟩ := List.getElem_of_mem hp
    obtain ⟨j, hj, ej⟩ := List.getElem_of_mem hq
    have f1 : rs[i]? = some (p.1, p.2) := by rw [List.getElem?_eq_getElem hi, ei]
    have f2 : rs[j]? = some (q.1, q.2) := by rw [List.getElem?_eq_getElem hj, ej]
    have hq0 := left_pos g hq
    have hl : cl p.1 = a ++ cl q.1 ++ c := by rw [e1, e3]; exact el1
    have h1 := len_cl p.1
    rw [hl, List.length_append, List.length_append] at h1
    by_cases h0 : 0 < a.length ∨ i < j
    · have m := (meets_iff f1 f2).mp (h _ (ov_in f1 f2 (by omega) h0 (ovText_inside hl)))
      rw [at0 (y := []) (by simp), cl_used (x := a) (y := c) (k := (a.length : Nat)) hl rfl, List.append_nil, e2, e4] at m
      exact m
    · have ha : a = [] := List.length_eq_zero_iff.mp (by omega)
      subst ha
      have hne : cl q.1 ≠ [] := fun z => by rw [z] at hq0; exact absurd hq0 (by simp)
      have m := same f2 f1 (a := []) (b := cl q.1) (c := c) (by simp) (by rw [hl]; simp) hne
      rw [e2, e4] at m
      simpa using m.symm
end Bk
set_option Elab.async false
set_option linter.all false
set_option maxRecDepth 100000
set_option maxHeartbeats 1000000
namespace Cf
variable {R : List Nat → List Nat → Prop}
/-! confluence below a bound: the overlaps that are asked to meet are those of texts in P -/
structure MeetsB (R : List Nat → List Nat → Prop) (nf : List Nat → List Nat) (P : List Nat → Prop) : Prop where
  over : ∀ l1 r1 l2 r2 a b c, R l1 r1 → R l2 r2 → b ≠ [] → l1 = a ++ b → l2 = b ++ c → P (a ++ b ++ c) → nf (r1 ++ c) = nf (a ++ r2)
  inside : ∀ l1 r1 l2 r2 a c, R l1 r1 → R l2 r2 → l1 = a ++ l2 ++ c → P l1 → nf r1 = nf (a ++ r2 ++ c)
def Down (P : List Nat → Prop) : Prop := ∀ u v, P u → v.length < u.length → P v
theorem Down.part {P : List Nat → Prop} (h : Down P) {x o y : List Nat} (p : P (x ++ o ++ y)) : P o := by
  by_cases e : x.length + y.length = 0
  · have hx : x = [] := List.length_eq_zero_iff.mp (by omega)
    have hy : y = [] := List.length_eq_zero_iff.mp (by omega)
    subst hx; subst hy
    simpa using p
  · exact h _ _ p (by rw [List.length_append, List.length_append]; omega)
end Cf
set_option Elab.async false
set_option linter.all false
set_option maxRecDepth 100000
set_option maxHeartbeats 1000000
namespace Bk
open PySem PySem.Spec PyProof.Rows L2
open Cf (Step Star Nf MeetsB Down)
/-- below the quarrel -/
def Under (z u : List Nat) : Prop := txLe u z = true ∧ u ≠ z
end Bk
set_option Elab.async false
set_option linter.all false
set_option maxRecDepth 100000
namespace Bk
open PySem PySem.Spec PyProof.Rows L2
def tMakeS (C : Addr) (sp : Sp) (E : L2.St → XK) (t : TA) : TE := fun σ H Q => t σ H fun vs H1 => ∀ x dx, H1 x = none → H1 dx = none → dx ≠ x → sp (.ref x :: vs) (upd (upd H1 dx (.own x)) x (.ins C dx [])) (fun v H2 => v = .non ∧ Q (.ref x) H2) (E σ)
end Bk
set_option Elab.async false
set_option linter.all false
set_option maxRecDepth 100000
namespace Bk
open PySem PySem.Spec PyProof.Rows L2
open Cf (Step Star Nf)
/-- how long overlaps are -/
theorem ov_short {rs : List (Str × Str)} {n : Nat} (h : ∀ q ∈ rs, 0 < q.1.length ∧ q.1.length ≤ n) {o : Ov} (ho : o ∈ ovAll rs) : o.1.length + 1 ≤ 2 * n := by
  obtain ⟨l, r, l2, r2, h1, h2, h3, h4⟩ := ov_mem ho
  obtain ⟨a1, a2⟩ := h _ (List.mem_of_getElem? h1)
  obtain ⟨b1, b2⟩ := h _ (List.mem_of_getElem? h2)
  simp only at a1 a2 b1 b2
  have hb : ∃ b : Nat, 0 < b ∧ bothOf l ((o.2.2.1 : Nat) : Int) l2 = (b : Nat) := by
    unfold bothOf
    split
    · exact ⟨l2.length, b1, rfl⟩
    · exact ⟨l.length - o.2.2.1, by omega, by omega⟩
  obtain ⟨b, hb0, hb⟩ := hb
  unfold ovText at h3
  split at h3
  · have e := Option.some.inj h3
    rw [← e, hb, cutS_lo b rfl, len_app, len_mk, List.length_drop, len_cl]
    omega
  · cases h3
end Bk
set_option Elab.async false
set_option linter.all false
set_option maxRecDepth 100000
set_option maxHeartbeats 2000000
namespace Bk
open PySem PySem.Spec PyProof.Rows L2
/-! an own object's length, told by its __len__; its items, told by its __getitem__ -/
structure LenC (K : PySem.W.Frag) (C g : Addr) : Prop where
  at_ : PySem.W.findIn K (.ref C) "__len__" = some (some (.ref g))
  fn : PySem.W.isFn K (.ref g) = true
structure ItemC (K : PySem.W.Frag) (C g : Addr) : Prop where
  at_ : PySem.W.findIn K (.ref C) "__getitem__" = some (some (.ref g))
  fn : PySem.W.isFn K (.ref g) = true
  fnI : PySem.W.fnIn K g = true
section
variable {X : Cx} {pins : List (Addr × Obj)} {σ : L2.St} {H : Hp} {s : Shared} {k : Nat} {g a C dx : Addr} {fs : List (Str × V)} {sp : Sp}
/-- len(o) -/
def rLenO (C : Addr) (sp : Sp) : List V → Hp → VK → Prop := fun xs H Q => ∃ a dx fs, xs = [V.ref a] ∧ H a = some (.ins C dx fs) ∧ sp [.ref a] H (fun v H' => ∃ n : Nat, v = .int n ∧ n < 2 ^ 63 ∧ Q (.int n) H') E0
/-- o[i] -/
def rItemO (C : Addr) (sp : Sp) : R2 := fun x y H Q => ∃ a dx fs, x = .ref a ∧ H a = some (.ins C dx fs) ∧ sp [.ref a, y] H Q E0
end
/-! list(o) of an own object whose __iter__ tells an iterator over a tuple -/
def ItTO (t j : Addr) (i : Nat) : HO := .ext fun h => h.IsTupleIter j t i
def ItTZ (j : Addr) : HO := .ext fun h => ∃ o, h.get? j = some o
section
variable {prog : Program} {w : World} {A : Around} {E : Value → Shared → Prop} {s : Shared}
end
section
variable {X : Cx} {pins : List (Addr × Obj)} {σ : L2.St} {H : Hp} {s : Shared} {k : Nat} {gi gl a C dx : Addr} {fs : List (Str × V)} {spI spL : Sp}
/-- iter(t), t a tuple -/
def rIterT (K : PySem.W.Frag) : List V → Hp → VK → Prop := fun xs H Q => ∃ (t : Addr) (zs : List V), xs = [.ref t] ∧ SqT K H t zs ∧ ∀ j, H j = none → Q (.ref j) (upd H j (ItTO t j 0))
structure IterC (K : PySem.W.Frag) (C gi gl : Addr) : Prop where
  at_ : PySem.W.findIn K (.ref C) "__iter__" = some (some (.ref gi))
  fn : PySem.W.isFn K (.ref gi) = true
  ln : LenC K C gl
def rListO (K : PySem.W.Frag) (C : Addr) (spI spL : Sp) : List V → Hp → VK → Prop := fun xs H Q => ∃ a dx fs, xs = [.ref a] ∧ H a = some (.ins C dx fs) ∧ ∀ p, H p = none → spI [.ref a] (upd H p (.lst [])) (fun v H1 => ∃ (j t : Addr) (zs : List V), v = .ref j ∧ j ≠ p ∧ t ≠ j ∧ t ≠ p ∧ zs.length < sizeLine ∧
  H1 a = some (.ins C dx fs) ∧ H1 p = some (.lst []) ∧ H1 j = some (ItTO t j 0) ∧ SqT K H1 t zs ∧ spL [.ref a] H1 (fun w H2 => ∃ n' : Nat, w = .int n' ∧ n' < 2 ^ 63 ∧ n' = zs.length ∧ H2 = H1) E0 ∧ ∀ H', (∀ b, b ≠ j → b ≠ p → H' b = H1 b) → H' p = some (.lst zs) → Q (.ref p) H') E0
end
end Bk
set_option Elab.async false
set_option linter.all false
set_option maxRecDepth 100000
set_option maxHeartbeats 2000000
namespace Bk
open PySem PySem.Spec PyProof.Rows L2
/-! an own object's == with a tuple behind it -/
def rEqT (K : PySem.W.Frag) (C : Addr) (sp : Sp) : R2 := fun x y H Q => ∃ a b dx fs xs, x = .ref a ∧ y = .ref b ∧ H a = some (.ins C dx fs) ∧ SqT K H b xs ∧ sp [.ref a, .ref b] H (fun v H' => ∃ k, v = .bl k ∧ Q (.bl k) H') E0
/-! an own object is called in the body of a try -/
def tCallOS (C : Addr) (sp : Sp) (E : L2.St → XK) (tf : TE) (t : TA) : TE := fun σ H Q => tf σ H fun y H1 => ∃ a, y = V.ref a ∧ t σ H1 fun vs H2 => (∃ dx fs, H2 a = some (.ins C dx fs)) ∧ sp (V.ref a :: vs) H2 Q (E σ)
end Bk
set_option Elab.async false
set_option linter.all false
set_option maxRecDepth 100000
namespace Bk
open PySem PySem.Spec PyProof.Rows L2
open Cf (Step Star Nf)
/-! books of arrows: a rule for each two that can be joined -/
structure Gpd {Pl : Type} (sg : List Nat) (b e : Nat → Pl) (pr : Nat → Nat → Option Nat) (inv : Nat → Nat) : Prop where
  nd : sg.Nodup
  cl : ∀ x ∈ sg, ∀ y ∈ sg, e x = b y → ∀ u, pr x y = some u → u ∈ sg ∧ b u = b x ∧ e u = e y
  un : ∀ x ∈ sg, ∀ y ∈ sg, e x = b y → pr x y = none → b x = e y
  as : ∀ x ∈ sg, ∀ y ∈ sg, ∀ z ∈ sg, e x = b y → e y = b z → (match pr x y with | some u => pr u z | none => some z) = match pr y z with | some v => pr x v | none => some x
  iv : ∀ x ∈ sg, inv x ∈ sg ∧ b (inv x) = e x ∧ e (inv x) = b x ∧ pr x (inv x) = none ∧ pr (inv x) x = none
  iu : ∀ x ∈ sg, ∀ y ∈ sg, e x = b y → pr x y = none → y = inv x
/-- its rules -/
structure Gbk {Pl : Type} (sg : List Nat) (b e : Nat → Pl) (pr : Nat → Nat → Option Nat) (rs : List (Str × Str)) : Prop where
  nd : rs.Nodup
  mem : ∀ p, p ∈ rs ↔ ∃ x ∈ sg, ∃ y ∈ sg, e x = b y ∧ p = (mkS [x, y], mkS (pr x y).toList)
section
variable {Pl : Type} {sg : List Nat} {b e : Nat → Pl} {pr : Nat → Nat → Option Nat} {inv : Nat → Nat} {rs : List (Str × Str)}
theorem opt_len {α : Type} (o : Option α) : o.toList.length ≤ 1 := by cases o <;> simp
theorem Gbk.good (h : Gbk sg b e pr rs) : Good rs := fun p hp => by
  obtain ⟨x, _, y, _, _, rfl⟩ := (h.mem p).mp hp
  have := opt_len (pr x y)
  simp only [len_mk]
  exact ⟨by simp, by omega, by simp; omega⟩
theorem Gbk.rule (h : Gbk sg b e pr rs) {l r : List Nat} (k : RR rs l r) : ∃ x ∈ sg, ∃ y ∈ sg, e x = b y ∧ l = [x, y] ∧ r = (pr x y).toList := by
  obtain ⟨p, hp, rfl, rfl⟩ := k
  obtain ⟨x, hx, y, hy, hc, rfl⟩ := (h.mem p).mp hp
  exact ⟨x, hx, y, hy, hc, cl_mk _, cl_mk _⟩
theorem Gbk.of (h : Gbk sg b e pr rs) {x y : Nat} (hx : x ∈ sg) (hy : y ∈ sg) (hc : e x = b y) : RR rs [x, y] (pr x y).toList :=
  ⟨_, (h.mem _).mpr ⟨x, hx, y, hy, hc, rfl⟩, cl_mk _, cl_mk _⟩
/-- texts of one sign, of two that can't be joined -/
theorem Gbk.irr1 (h : Gbk sg b e pr rs) {u : List Nat} (hu : u.length ≤ 1) : Irr rs u := fun v s => by
  obtain ⟨x, l, r, y, k, e1, _⟩ := s
  obtain ⟨c, _, d, _, _, rfl, _⟩ := h.rule k
  rw [e1] at hu
  simp at hu
  omega
theorem Gbk.over1 (h : Gbk sg b e pr rs) {u : List Nat} (hu : u.length ≤ 1) : overP rs u = u := (nf_over h.good).fix (h.irr1 hu)
/-- two that can be joined leave their product -/
theorem Gbk.over2 (h : Gbk sg b e pr rs) {x y : Nat} (hx : x ∈ sg) (hy : y ∈ sg) (hc : e x = b y) : overP rs [x, y] = (pr x y).toList := by
  have N := nf_over h.good
  have hs := N.star [x, y]
  have stop := N.stop [x, y]
  generalize overP rs [x, y] = w at hs stop
  cases hs with
  | refl => exact absurd (show Step (RR rs) [x, y] (pr x y).toList from ⟨[], _, _, [], h.of hx hy hc, by simp, by simp⟩) (stop _)
  | head s t =>
    obtain ⟨a, l, r, c, k, e1, e2⟩ := s
    obtain ⟨x', h1, y', h2, h3, rfl, rfl⟩ := h.rule k
    have hl := congrArg List.length e1
    simp at hl
    have ha : a = [] := List.length_eq_zero_iff.mp (by omega)
    have hcc : c = [] := List.length_eq_zero_iff.mp (by omega)
    subst ha hcc
    simp at e1 e2
    obtain ⟨rfl, rfl⟩ := e1
    subst e2
    cases t with
    | refl => rfl
    | head s' _ => exact absurd s' (h.irr1 (opt_len _) _)
/-- a product and one sign more -/
theorem Gbk.overR (h : Gbk sg b e pr rs) (g : Gpd sg b e pr inv) {x y z : Nat} (hx : x ∈ sg) (hy : y ∈ sg) (hz : z ∈ sg) (h1 : e x = b y) (h2 : e y = b z) : overP rs ((pr x y).toList ++ [z]) = (match pr x y with | some u => pr u z | none => some z).toList := by
  cases hp : pr x y with
  | none => exact h.over1 (by simp)
  | some u =>
    obtain ⟨hu, _, hue⟩ := g.cl x hx y hy h1 u hp
    exact h.over2 hu hz (by rw [hue]; exact h2)
theorem Gbk.overL (h : Gbk sg b e pr rs) (g : Gpd sg b e pr inv) {x y z : Nat} (hx : x ∈ sg) (hy : y ∈ sg) (hz : z ∈ sg) (h1 : e x = b y) (h2 : e y = b z) : overP rs ([x] ++ (pr y z).toList) = (match pr y z with | some v => pr x v | none => some x).toList := by
  cases hp : pr y z with
  | none => exact h.over1 (by simp)
  | some v =>
    obtain ⟨hv, hvb, _⟩ := g.cl y hy z hz h2 v hp
    exact h.over2 hx hv (by rw [hvb]; exact h1)
/-- a book of arrows is settled -/
theorem Gbk.set (h : Gbk sg b e pr rs) (g : Gpd sg b e pr inv) : Settled rs := set_of_meets h.good fun o ho => by
  obtain ⟨l, r, l2, r2, e1, e2, e3, e4⟩ := ov_mem ho
  obtain ⟨z, i, p, j⟩ := o
  simp only at e1 e2 e3 e4
  have m1 := List.mem_of_getElem? e1
  have m2 := List.mem_of_getElem? e2
  have hsh := ov_short (n := 2) (fun q hq => by
    obtain ⟨x, _, y, _, _, rfl⟩ := (h.mem q).mp hq
    simp [len_mk]) ho
  simp only at hsh
  obtain ⟨x, hx, y, hy, hc, e5⟩ := (h.mem _).mp m1
  obtain ⟨x2, hx2, y2, hy2, hc2, e6⟩ := (h.mem _).mp m2
  obtain ⟨rfl, rfl⟩ := Prod.mk.inj e5
  obtain ⟨rfl, rfl⟩ := Prod.mk.inj e6
  rw [len_mk] at e4
  simp at e4
  obtain ⟨⟨y1, w1⟩, ⟨y3, w2⟩⟩ := ovText_ok (by rw [len_mk]; simp; omega) e3
  rw [cl_mk] at w1 w2
  rw [cl_mk] at w2
  have hzl := len_cl z
  rw [meets_iff e1 e2]
  rcases (show p = 0 ∨ p = 1 by omega) with rfl | rfl
  · have q : [x, y] ++ y1 = [x2, y2] ++ y3 := by rw [← w1, w2]; simp
    simp at q
    obtain ⟨rfl, rfl, _⟩ := q
    rfl
  · have q : [x, y] ++ y1 = [x] ++ [x2, y2] ++ y3 := by rw [← w1, w2]; simp
    simp at q
    obtain ⟨rfl, q2⟩ := q
    have ly : y3 = [] := by
      have h3 : (Bk.cl z).length = 3 + y3.length := by
        rw [w2]
        simp
        omega
      exact List.length_eq_zero_iff.mp (by omega)
    subst ly
    subst q2
    have wa : cl z = [] ++ cl (mkS [x, y]) ++ [y2] := by rw [cl_mk, w1]; simp
    have wb : cl z = [x] ++ cl (mkS [y, y2]) ++ [] := by rw [cl_mk, w1]; simp
    rw [cl_used wa (k := 0) (by simp), cl_used wb (k := ((1 : Nat) : Int)) (by simp), cl_mk, cl_mk, List.nil_append, List.append_nil]
    rw [h.overR g hx hy hy2 hc hc2, h.overL g hx hy hy2 hc hc2, g.as x hx y hy y2 hy2 hc hc2]
/-- its least book has all its rules -/
theorem Gbk.least (h : Gbk sg b e pr rs) {ls : List (List Nat)} (k : LeastL rs ls) : ∀ l, l ∈ ls ↔ ∃ x ∈ sg, ∃ y ∈ sg, e x = b y ∧ l = [x, y] := fun l => by
  rw [k.mem]
  constructor
  · rintro ⟨⟨p, hp, rfl⟩, _⟩
    obtain ⟨x, hx, y, hy, hc, rfl⟩ := (h.mem p).mp hp
    exact ⟨x, hx, y, hy, hc, cl_mk _⟩
  · rintro ⟨x, hx, y, hy, hc, rfl⟩
    refine ⟨⟨_, (h.mem _).mpr ⟨x, hx, y, hy, hc, rfl⟩, cl_mk _⟩, ?_⟩
    rintro ⟨u, w, v, e1, e2, e3, e4⟩
    obtain ⟨p, hp, e5⟩ := List.mem_map.mp e4
    obtain ⟨x', _, y', _, _, rfl⟩ := (h.mem p).mp hp
    have hw : [x', y'] = w := by
      have := congrArg Bk.cl e5
      simpa [cl_mk] using this
    rw [← hw] at e3
    simp at e3
end
end Bk
set_option Elab.async false
set_option linter.all false
set_option maxRecDepth 100000
namespace Bk
open PySem PySem.Spec PyProof.Rows L2
open Cf (Step Star Nf)
theorem wm_indexD {X : Cx} {K : PySem.W.Frag} (hu : X.A.units + 65 < cLine) (hK : X.K = K := by rfl) : MtR X "list.index" (rIndexD K) := by
  subst hK
  exact mt_indexD hu
/-! the law's small groups, and the arrows of some parts -/
def cyc (c : Nat) : List (List Nat) := (List.range c).map fun i => (List.range c).map fun j => (i + j) % c
def turns3 : List (List Nat) := [[0, 1, 2], [1, 2, 0], [2, 0, 1], [1, 0, 2], [0, 2, 1], [2, 1, 0]]
def ex3 : List (List Nat) := turns3.map fun one => turns3.map fun o => turns3.idxOf [o.getD (one.getD 0 0) 0, o.getD (one.getD 1 0) 0, o.getD (one.getD 2 0) 0]
def tblN (c : Nat) : List (List Nat) := if c < 7 then cyc c else if c = 7 then [[0, 1, 2, 3], [1, 0, 3, 2], [2, 3, 0, 1], [3, 2, 1, 0]] else ex3
def ordN (c : Nat) : Nat := (tblN c).length
def mulN (c g h : Nat) : Nat := ((tblN c).getD g []).getD h 0
def invN (c g : Nat) : Nat := ((tblN c).getD g []).idxOf 0
abbrev codes : List Nat := [1, 2, 3, 4, 5, 6, 7, 8]
theorem mulN_lt : ∀ c ∈ codes, ∀ g < ordN c, ∀ h < ordN c, mulN c g h < ordN c := by decide +kernel
theorem mulN_as : ∀ c ∈ codes, ∀ g < ordN c, ∀ h < ordN c, ∀ k < ordN c, mulN c (mulN c g h) k = mulN c g (mulN c h k) := by decide +kernel
theorem mulN_one : ∀ c ∈ codes, 0 < ordN c ∧ ∀ g < ordN c, mulN c 0 g = g ∧ mulN c g 0 = g := by decide +kernel
theorem mulN_inv : ∀ c ∈ codes, ∀ g < ordN c, invN c g < ordN c ∧ mulN c g (invN c g) = 0 ∧ mulN c (invN c g) g = 0 ∧ ∀ h < ordN c, mulN c g h = 0 → h = invN c g := by decide +kernel
theorem invN_0 : ∀ c ∈ codes, ∀ g < ordN c, invN c g = 0 → g = 0 := by decide +kernel
/-- (part, from, element, to) -/
abbrev Arw := Nat × Nat × Nat × Nat
def okA (sh : List (Nat × Nat)) (a : Arw) : Prop := ∃ c m, sh[a.1]? = some (c, m) ∧ a.2.1 < m ∧ a.2.2.2 < m ∧ a.2.2.1 < ordN c ∧ (a.2.1 ≠ a.2.2.2 ∨ a.2.2.1 ≠ 0)
def codeA (sh : List (Nat × Nat)) (a : Arw) : Nat := (sh.getD a.1 (1, 0)).1
/-- what two arrows make, one behind the other -/
def mulA (sh : List (Nat × Nat)) (a d : Arw) : Option Arw := if a.2.1 = d.2.2.2 ∧ mulN (codeA sh a) a.2.2.1 d.2.2.1 = 0 then none else some (a.1, a.2.1, mulN (codeA sh a) a.2.2.1 d.2.2.1, d.2.2.2)
def invA (sh : List (Nat × Nat)) (a : Arw) : Arw := (a.1, a.2.2.2, invN (codeA sh a) a.2.2.1, a.2.1)
abbrev fromA (a : Arw) : Nat × Nat := (a.1, a.2.1)
abbrev toA (a : Arw) : Nat × Nat := (a.1, a.2.2.2)
section
variable {sh : List (Nat × Nat)}
theorem codeA_of {a : Arw} {c m : Nat} (h : sh[a.1]? = some (c, m)) : codeA sh a = c := by
  unfold codeA
  rw [List.getD_eq_getElem?_getD, h]; rfl
theorem mulA_ok (hc : ∀ s ∈ sh, s.1 ∈ codes) {a d r : Arw} (ha : okA sh a) (hd : okA sh d) (hk : toA a = fromA d) (h : mulA sh a d = some r) : okA sh r ∧ fromA r = fromA a ∧ toA r = toA d := by
  obtain ⟨c, m, e1, a1, a2, a3, a4⟩ := ha
  obtain ⟨c', m', e2, d1, d2, d3, d4⟩ := hd
  obtain ⟨k1, k2⟩ := Prod.mk.inj hk
  rw [← k1, e1] at e2
  cases e2
  have hcc := hc _ (List.mem_of_getElem? e1)
  unfold mulA at h
  rw [codeA_of e1] at h
  split at h
  · cases h
  · rename_i hn
    cases h
    refine ⟨⟨c, m, e1, a1, d2, mulN_lt c hcc _ a3 _ d3, ?_⟩, rfl, by simp [k1]⟩
    by_cases z : a.2.1 = d.2.2.2
    · exact .inr fun q => hn ⟨z, q⟩
    · exact .inl z
theorem mulA_none {a d : Arw} (hk : toA a = fromA d) (h : mulA sh a d = none) : fromA a = toA d := by
  obtain ⟨k1, k2⟩ := Prod.mk.inj hk
  unfold mulA at h
  split at h
  · rename_i z
    simp [z.1, k1]
  · cases h
theorem mulA_as (hc : ∀ s ∈ sh, s.1 ∈ codes) {a d f : Arw} (ha : okA sh a) (hd : okA sh d) (hf : okA sh f) (h1 : toA a = fromA d) (h2 : toA d = fromA f) :
    (match mulA sh a d with | some u => mulA sh u f | none => some f) = match mulA sh d f with | some v => mulA sh a v | none => some a := by
  obtain ⟨c, m, e1, a1, a2, a3, a4⟩ := ha
  obtain ⟨c', m', e2, d1, d2, d3, d4⟩ := hd
  obtain ⟨c'', m'', e3, f1, f2, f3, f4⟩ := hf
  obtain ⟨k1, k2⟩ := Prod.mk.inj h1
  obtain ⟨l1, l2⟩ := Prod.mk.inj h2
  rw [← k1, e1] at e2
  cases e2
  rw [← l1, ← k1, e1] at e3
  cases e3
  have hcc := hc _ (List.mem_of_getElem? e1)
  obtain ⟨k, i, g, j⟩ := a
  obtain ⟨k', i', g', j'⟩ := d
  obtain ⟨k'', i'', g'', j''⟩ := f
  simp only at *
  subst k1 k2 l1 l2
  have cd : ∀ x y z, codeA sh (k, x, y, z) = c := fun x y z => codeA_of e1
  have as := mulN_as c hcc g a3 g' d3 g'' f3
  obtain ⟨o0, on⟩ := mulN_one c hcc
  unfold mulA
  simp only [cd]
  by_cases p1 : i = j' ∧ mulN c g g' = 0
  · rw [if_pos p1]
    by_cases p2 : j = j'' ∧ mulN c g' g'' = 0
    · rw [if_pos p2]
      obtain ⟨q1, q2⟩ := p1
      obtain ⟨q3, q4⟩ := p2
      rw [q2, q4, (on g'' f3).1, (on g a3).2] at as
      simp [as, q1, q3]
    · rw [if_neg p2]
      obtain ⟨q1, q2⟩ := p1
      rw [q2, (on g'' f3).1] at as
      simp only
      rw [← as, if_neg (by
        rintro ⟨z1, z2⟩
        rcases f4 with z | z
        · exact z (by rw [← q1]; exact z1)
        · exact z z2), q1]
  · rw [if_neg p1]
    by_cases p2 : j = j'' ∧ mulN c g' g'' = 0
    · rw [if_pos p2]
      obtain ⟨q3, q4⟩ := p2
      rw [q4, (on g a3).2] at as
      simp only [cd]
      rw [as, if_neg (by
        rintro ⟨z1, z2⟩
        rcases a4 with z | z
        · exact z (by rw [z1, q3])
        · exact z z2), q3]
    · rw [if_neg p2]
      simp only [cd, as]
theorem invA_ok (hc : ∀ s ∈ sh, s.1 ∈ codes) {a : Arw} (ha : okA sh a) : okA sh (invA sh a) ∧ fromA (invA sh a) = toA a ∧ toA (invA sh a) = fromA a ∧ mulA sh a (invA sh a) = none ∧ mulA sh (invA sh a) a = none := by
  obtain ⟨c, m, e1, a1, a2, a3, a4⟩ := ha
  have hcc := hc _ (List.mem_of_getElem? e1)
  have cd := codeA_of e1
  obtain ⟨i1, i2, i3, _⟩ := mulN_inv c hcc _ a3
  refine ⟨⟨c, m, e1, a2, a1, by unfold invA; rw [cd]; exact i1, ?_⟩, rfl, rfl, ?_, ?_⟩
  · rcases a4 with z | z
    · exact .inl fun q => z q.symm
    · refine .inr fun q => z ?_
      unfold invA at q
      rw [cd] at q
      exact invN_0 c hcc _ a3 q
  · unfold mulA invA
    simp only [cd, i2]
    simp
  · unfold mulA invA
    have cd2 : ∀ x y z, codeA sh (a.1, x, y, z) = c := fun x y z => codeA_of e1
    simp only [cd, cd2, i3]
    simp
theorem invA_uni (hc : ∀ s ∈ sh, s.1 ∈ codes) {a d : Arw} (ha : okA sh a) (hd : okA sh d) (hk : toA a = fromA d) (h : mulA sh a d = none) : d = invA sh a := by
  obtain ⟨c, m, e1, a1, a2, a3, a4⟩ := ha
  obtain ⟨c', m', e2, d1, d2, d3, d4⟩ := hd
  obtain ⟨k1, k2⟩ := Prod.mk.inj hk
  rw [← k1, e1] at e2
  cases e2
  have hcc := hc _ (List.mem_of_getElem? e1)
  have cd := codeA_of e1
  unfold mulA at h
  rw [cd] at h
  split at h
  · rename_i z
    have := (mulN_inv c hcc _ a3).2.2.2 _ d3 z.2
    obtain ⟨k', i', g', j'⟩ := d
    simp only at *
    unfold invA
    rw [cd, ← k1, ← k2, this, z.1]
  · cases h
end
/-! arrows that have signs -/
structure Sgd (sh : List (Nat × Nat)) (S : List Nat) (As : List Arw) : Prop where
  co : ∀ s ∈ sh, s.1 ∈ codes
  len : S.length = As.length
  nS : S.Nodup
  nA : As.Nodup
  ok : ∀ a, a ∈ As ↔ okA sh a
def arwOf (S : List Nat) (As : List Arw) (x : Nat) : Arw := As.getD (S.idxOf x) (0, 0, 0, 0)
def sgnOf (S : List Nat) (As : List Arw) (a : Arw) : Nat := S.getD (As.idxOf a) 0
section
variable {sh : List (Nat × Nat)} {S : List Nat} {As : List Arw}
theorem Sgd.arw (h : Sgd sh S As) {x : Nat} (hx : x ∈ S) : arwOf S As x ∈ As ∧ sgnOf S As (arwOf S As x) = x := by
  have h1 := List.idxOf_lt_length_of_mem hx
  have h2 : S.idxOf x < As.length := by rw [← h.len]; exact h1
  have e1 : arwOf S As x = As[S.idxOf x] := by
    unfold arwOf
    rw [List.getD_eq_getElem?_getD, List.getElem?_eq_getElem h2]; rfl
  refine ⟨by rw [e1]; exact List.getElem_mem h2, ?_⟩
  unfold sgnOf
  rw [e1, h.nA.idxOf_getElem _ h2, List.getD_eq_getElem?_getD, List.getElem?_eq_getElem h1]
  exact List.getElem_idxOf h1
theorem Sgd.sgn (h : Sgd sh S As) {a : Arw} (ha : a ∈ As) : sgnOf S As a ∈ S ∧ arwOf S As (sgnOf S As a) = a := by
  have h1 := List.idxOf_lt_length_of_mem ha
  have h2 : As.idxOf a < S.length := by rw [h.len]; exact h1
  have e1 : sgnOf S As a = S[As.idxOf a] := by
    unfold sgnOf
    rw [List.getD_eq_getElem?_getD, List.getElem?_eq_getElem h2]; rfl
  refine ⟨by rw [e1]; exact List.getElem_mem h2, ?_⟩
  unfold arwOf
  rw [e1, h.nS.idxOf_getElem _ h2, List.getD_eq_getElem?_getD, List.getElem?_eq_getElem h1]
  exact List.getElem_idxOf h1
def bS (S : List Nat) (As : List Arw) (x : Nat) : Nat × Nat := fromA (arwOf S As x)
def eS (S : List Nat) (As : List Arw) (x : Nat) : Nat × Nat := toA (arwOf S As x)
def prS (sh : List (Nat × Nat)) (S : List Nat) (As : List Arw) (x y : Nat) : Option Nat := (mulA sh (arwOf S As x) (arwOf S As y)).map (sgnOf S As)
def invS (sh : List (Nat × Nat)) (S : List Nat) (As : List Arw) (x : Nat) : Nat := sgnOf S As (invA sh (arwOf S As x))
theorem Sgd.gpd (h : Sgd sh S As) : Gpd S (bS S As) (eS S As) (prS sh S As) (invS sh S As) := by
  have okx : ∀ {x}, x ∈ S → okA sh (arwOf S As x) := fun hx => (h.ok _).mp (h.arw hx).1
  refine ⟨h.nS, fun x hx y hy hc u hu => ?_, fun x hx y hy hc hp => ?_, fun x hx y hy z hz h1 h2 => ?_, fun x hx => ?_, fun x hx y hy hc hp => ?_⟩
  · obtain ⟨r, hr, rfl⟩ := Option.map_eq_some_iff.mp hu
    obtain ⟨o1, o2, o3⟩ := mulA_ok h.co (okx hx) (okx hy) hc hr
    obtain ⟨s1, s2⟩ := h.sgn ((h.ok r).mpr o1)
    refine ⟨s1, ?_, ?_⟩
    · unfold bS; rw [s2]; exact o2
    · unfold eS; rw [s2]; exact o3
  · exact mulA_none hc (Option.map_eq_none_iff.mp hp)
  · have as := mulA_as h.co (okx hx) (okx hy) (okx hz) h1 h2
    unfold prS
    cases e1 : mulA sh (arwOf S As x) (arwOf S As y) with
    | none =>
      rw [e1] at as
      cases e2 : mulA sh (arwOf S As y) (arwOf S As z) with
      | none =>
        rw [e2] at as
        have e3 : arwOf S As z = arwOf S As x := Option.some.inj as
        have := congrArg (sgnOf S As) e3
        rw [(h.arw hz).2, (h.arw hx).2] at this
        simp [this]
      | some v =>
        rw [e2] at as
        obtain ⟨o1, _, _⟩ := mulA_ok h.co (okx hy) (okx hz) h2 e2
        simp only [Option.map_none, Option.map_some]
        rw [(h.sgn ((h.ok v).mpr o1)).2]
        simp only at as
        rw [← as]
        simp [(h.arw hz).2]
    | some u =>
      rw [e1] at as
      obtain ⟨o1, _, _⟩ := mulA_ok h.co (okx hx) (okx hy) h1 e1
      cases e2 : mulA sh (arwOf S As y) (arwOf S As z) with
      | none =>
        rw [e2] at as
        simp only [Option.map_none, Option.map_some]
        rw [(h.sgn ((h.ok u).mpr o1)).2]
        simp only at as
        rw [as]
        simp [(h.arw hx).2]
      | some v =>
        rw [e2] at as
        obtain ⟨o2, _, _⟩ := mulA_ok h.co (okx hy) (okx hz) h2 e2
        simp only [Option.map_some]
        rw [(h.sgn ((h.ok u).mpr o1)).2, (h.sgn ((h.ok v).mpr o2)).2]
        simp only at as
        rw [as]
  · obtain ⟨i1, i2, i3, i4, i5⟩ := invA_ok h.co (okx hx)
    obtain ⟨s1, s2⟩ := h.sgn ((h.ok _).mpr i1)
    refine ⟨s1, ?_, ?_, ?_, ?_⟩
    · unfold bS invS; rw [s2]; exact i2
    · unfold eS invS; rw [s2]; exact i3
    · unfold prS invS; rw [s2, i4]; rfl
    · unfold prS invS; rw [s2, i5]; rfl
  · have e := invA_uni h.co (okx hx) (okx hy) hc (Option.map_eq_none_iff.mp hp)
    unfold invS
    rw [← e, (h.arw hy).2]
end
end Bk
set_option Elab.async false
set_option linter.all false
set_option maxRecDepth 100000
namespace Bk
open PySem PySem.Spec PyProof.Rows L2
/-! max(d.values()) of a dict of whole numbers -/
def tMaxV (td : TE) : TE := fun σ H Q => td σ H fun x H1 => ∃ (a : Addr) (kvs : List (Key × V)) (ns : List Int), x = .ref a ∧ H1 a = some (.dK kvs) ∧ kvs.map Prod.snd = ns.map V.int ∧ 0 < ns.length ∧ ∀ m, m ∈ ns → (∀ y, y ∈ ns → y ≤ m) → Q (.int m) H1
theorem call_maxV {X : Cx} {pins : List (Addr × Obj)} {σ : L2.St} {H : Hp} {s : Shared} {p a : Addr} {kvs : List (Key × V)} {ns : List Int} {Q : VK} (hc : X.calm = true) (I : Inv X pins σ H s) (hv : s.heap.get? p = some (DSub.viewOb "dict_values" a)) (hd : H a = some (.dK kvs)) (hns : kvs.map Prod.snd = ns.map V.int) (hne : 0 < ns.length)
    (q : ∀ m, m ∈ ns → (∀ y, y ∈ ns → y ≤ m) → Q (.int m) H) : wpAny (model X.prog X.w) X.A (call (.builtin "max") [.ref p]) (EP X pins σ Q) X.xe s := by
  obtain ⟨hsz0, hsm, vs, kv, o, es, ep, ho, hex, hdat, hk, hp, hn⟩ := dk_of I.hok hd
  have hkn : kvs.length = ns.length := by
    have e := congrArg List.length hns
    rw [List.length_map, List.length_map] at e
    exact e
  have hes : es.size = kvs.length := by
    have e1 := hp.length
    rw [Array.length_toList] at e1
    rw [e1, kv.length]
  have hsz : es.size = ns.length := hes.trans hkn
  have hP : ∀ (i : Nat) (e : DictEntry), es[i]? = some e → ∃ t, e.val = .int (ns.getD i 0) t := fun i e he => by
    have hi : i < es.size := by
      rcases Nat.lt_or_ge i es.size with z | z
      · exact z
      · rw [Array.getElem?_eq_none z] at he
        cases he
    have hi2 : i < kvs.length := by omega
    have hi3 : i < ns.length := by omega
    obtain ⟨u, hu, ru⟩ := kv_get kv (i := i) (k := kvs[i].1) (v := kvs[i].2) (List.getElem?_eq_getElem hi2)
    obtain ⟨_, h2⟩ := hp.get? (e := e) (by rw [Array.getElem?_toList]; exact he) hu
    have e2 : kvs[i].2 = V.int ns[i] := by
      have z : (kvs.map Prod.snd)[i]? = (ns.map V.int)[i]? := by rw [hns]
      rw [List.getElem?_map, List.getElem?_map, List.getElem?_eq_getElem hi2, List.getElem?_eq_getElem hi3] at z
      exact Option.some.inj z
    have e3 : ns.getD i 0 = ns[i] := by rw [List.getD_eq_getElem?_getD, List.getElem?_eq_getElem hi3] <;> rfl
    rw [e2] at ru
    rw [h2, e3]
    exact ru
  refine call_max_walk ?_
  refine DSub.iter_vals hv ho hdat ?_
  have ha : a < s.heap.objs.size := Heap.lt_size ho
  refine ⟨s.heap.objs.size, [s.heap.objs.size, a], [s.heap.objs.size], es.size, fun i v => ∃ t, v = .int (ns.getD i 0) t, _, fun i j => decide (ns.getD i 0 > ns.getD j 0), rfl, DSub.walksVal (a := a) (show X.A.in1.handled = none from I.ok.hd hc) (Nat.ne_of_lt ha) hdat hP, ⟨Heap.get?_push_size _ rfl, Heap.get?_push_of_some _ ho⟩, fun b hb => ?_, by omega, CmpOf.ints_gt (fun i => ns.getD i 0) (fun i v z => z), fun v h' tk hv' hk => ?_⟩
  · show b < (s.heap.push _).objs.size
    rw [size_push']
    rcases List.mem_cons.mp hb with z | z
    · rw [z]
      exact Nat.lt_succ_self _
    · rw [List.mem_singleton.mp z]
      exact Nat.lt_succ_of_lt ha
  · obtain ⟨t, rfl⟩ := hv'
    obtain ⟨m1', m2'⟩ := argBest_gt (fun i => ns.getD i 0) (es.size - 1)
    have m1 : argBest (fun i j => decide (ns.getD i 0 > ns.getD j 0)) (es.size - 1) ≤ es.size - 1 := m1'
    have m2 : ∀ j, j ≤ es.size - 1 → ns.getD j 0 ≤ ns.getD (argBest (fun i j => decide (ns.getD i 0 > ns.getD j 0)) (es.size - 1)) 0 := m2'
    have hk2 : ∀ b o, s.heap.get? b = some o → h'.get? b = some o := fun b o e => hk b o (fun z => by rw [List.mem_singleton.mp z] at e; exact absurd (Heap.lt_size e) (Nat.lt_irrefl _)) (Heap.get?_push_of_some _ e)
    refine ⟨.int _, H, I.kept (t' := tk) hk2, ⟨t, rfl⟩, q _ (PySem.getD_mem (by omega)) fun y hy => ?_⟩
    obtain ⟨j, hj, e⟩ := List.mem_iff_getElem.mp hy
    have z := m2 j (by omega)
    have e3 : ns.getD j 0 = y := by rw [List.getD_eq_getElem?_getD, List.getElem?_eq_getElem hj, ← e] <;> rfl
    rw [e3] at z
    exact z
theorem pe_maxV {X : Cx} {e : Expr} {td : TE} {p0 pos apos cpos : Pos} (hc : X.calm = true) (hg : Gl X "max") (hm : X.mg "max" = none) (he : PE X e td) (hbase : attributeBase e "values" X.env (eval e X.env) = eval e X.env := by rfl) (hline : (apos.endLine == cpos.line) = true := by rfl)
    (na : starEach [.Call (.Attribute e "values" apos) [] [] cpos] X.env = (false, eval (.Call (.Attribute e "values" apos) [] [] cpos) X.env) :: starEach [] X.env := by rfl) : PE X (.Call (.Name "max" p0) [.Call (.Attribute e "values" apos) [] [] cpos] [] pos) (tMaxV td) := by
  refine ⟨fun pins s σ H Q I h => ?_⟩
  refine Call_ (ld_blt I hg hm (u := .builtin "max") (by decide +kernel) (PyProof.Rows.callWith_builtin1 (args_cons ?_ na) na))
  refine wpAny_Call_method (T := "dict") (id := "dict.values") hbase rfl hline PySem.F.plainAttrs_dict PySem.F.slot_dict_values PySem.F.type_dict_values (thn (he.run pins s σ H _ I h) fun u s1 ⟨x, H1, I1, rx, a, kvs, ns, ex, hd, hns, hne, q⟩ => ?_)
  subst ex
  obtain rfl : u = Value.ref a := rx
  obtain ⟨hsz0, hsm, vs, kv, dd⟩ := dk_of I1.hok hd
  refine ⟨dd.typeIs, dd.mapOf.noDict, ?_⟩
  have I2 : Inv X pins σ H1 { s1 with heap := s1.heap.push { cls := .type "dict_values", data := .fields #[.ref a] } } := I1.kept (t' := s1.toks) fun b ob q => Heap.get?_push_of_some _ q
  show wpAny _ _ (callWith cpos (.builtin "dict.values") [.ref a] [] []) _ X.xe s1
  exact method_meetsIn PySem.F.slot_dict_values PySem.F.entry_dict_values rfl (PySem.evalArgs_none ⟨rfl, dd.typeIs, PySem.F.args_dict_values_1 _, _, meets_dict_values (mixKind X.prog X.w) a hsm, ⟨vs, dd⟩, args_nil (call_maxV hc I2 (Heap.get?_push_size _ rfl) hd hns hne q)⟩)
/-! rows of numbers, as lists or tuples -/
abbrev nvs (r : List Nat) : List V := r.map fun n => V.int (n : Nat)
def RowsO (o : List V → HO) (H : Hp) : List Addr → List (List Nat) → Prop
  | [], [] => True
  | b :: bs, r :: rs => H b = some (o (nvs r)) ∧ RowsO o H bs rs
  | _, _ => False
theorem RowsO.same {o : List V → HO} {H H' : Hp} (s : Same H H') : ∀ {bs : List Addr} {rs : List (List Nat)}, RowsO o H bs rs → RowsO o H' bs rs
  | [], [], _ => trivial
  | _ :: _, _ :: _, h => ⟨s _ _ h.1, h.2.same s⟩
  | [], _ :: _, h => h.elim
  | _ :: _, [], h => h.elim
theorem RowsO.len {o : List V → HO} {H : Hp} : ∀ {bs : List Addr} {rs : List (List Nat)}, RowsO o H bs rs → bs.length = rs.length
  | [], [], _ => rfl
  | _ :: _, _ :: _, h => by rw [List.length_cons, List.length_cons, h.2.len]
  | [], _ :: _, h => h.elim
  | _ :: _, [], h => h.elim
theorem RowsO.app {o : List V → HO} {H : Hp} : ∀ {bs cs : List Addr} {rs ts : List (List Nat)}, RowsO o H bs rs → RowsO o H cs ts → RowsO o H (bs ++ cs) (rs ++ ts)
  | [], _, [], _, _, k => k
  | _ :: _, _, _ :: _, _, h, k => ⟨h.1, h.2.app k⟩
  | [], _, _ :: _, _, h, _ => h.elim
  | _ :: _, _, [], _, h, _ => h.elim
theorem RowsO.one {o : List V → HO} {H : Hp} {b : Addr} {r : List Nat} (e : H b = some (o (nvs r))) : RowsO o H [b] [r] := ⟨e, trivial⟩
theorem RowsO.keep {o : List V → HO} {H H' : Hp} {A : Addr} (k : Wp.Keep A H H') : ∀ {bs : List Addr} {rs : List (List Nat)}, (∀ b ∈ bs, b ≠ A) → RowsO o H bs rs → RowsO o H' bs rs
  | [], [], _, _ => trivial
  | b :: _, _ :: _, hne, h => ⟨k _ _ (hne b List.mem_cons_self) h.1, RowsO.keep k (fun b hb => hne b (List.mem_cons_of_mem _ hb)) h.2⟩
  | [], _ :: _, _, h => h.elim
  | _ :: _, [], _, h => h.elim
theorem RowsO.ne {H : Hp} {A : Addr} {us : List V} (hA : H A = some (.lst us)) : ∀ {bs : List Addr} {rs : List (List Nat)}, RowsO .tup H bs rs → ∀ b ∈ bs, b ≠ A
  | [], _, _, _, hb => nomatch hb
  | b :: _, _ :: _, h, c, hc => by
    rcases List.mem_cons.mp hc with rfl | hc
    · intro e
      have h1 := h.1
      rw [e, hA] at h1
      cases h1
    · exact RowsO.ne hA h.2 c hc
  | _ :: _, [], h, _, _ => h.elim
theorem RowsO.keepT {H H' : Hp} {A : Addr} {us : List V} (hA : H A = some (.lst us)) (k : Wp.Keep A H H') {bs : List Addr} {rs : List (List Nat)} (h : RowsO .tup H bs rs) : RowsO .tup H' bs rs := h.keep k (h.ne hA)
theorem RowsO.get {o : List V → HO} {H : Hp} : ∀ {bs : List Addr} {rs : List (List Nat)} {i : Nat} {r : List Nat}, RowsO o H bs rs → rs[i]? = some r → ∃ b, bs[i]? = some b ∧ H b = some (o (nvs r))
  | [], [], _, _, _, e => by simp at e
  | b :: _, _ :: _, 0, _, h, e => by
    cases (Option.some.inj e)
    exact ⟨b, rfl, h.1⟩
  | _ :: bs, _ :: rs, i + 1, r, h, e => by
    obtain ⟨b, h1, h2⟩ := RowsO.get (i := i) h.2 (by simpa using e)
    exact ⟨b, by simpa using h1, h2⟩
  | [], _ :: _, _, _, h, _ => h.elim
  | _ :: _, [], _, _, h, _ => h.elim
theorem RowsO.at {o : List V → HO} {H : Hp} {bs : List Addr} {rs : List (List Nat)} {i : Nat} {b : Addr} (h : RowsO o H bs rs) (e : bs[i]? = some b) : ∃ r, rs[i]? = some r ∧ H b = some (o (nvs r)) := by
  have hl := h.len
  have hi := (List.getElem?_eq_some_iff.mp e).1
  have e2 : rs[i]? = some rs[i] := List.getElem?_eq_getElem (by omega)
  obtain ⟨b', h1, h2⟩ := h.get e2
  rw [e] at h1
  cases h1
  exact ⟨_, e2, h2⟩
/-- as data -/
theorem RowsO.data {K : PySem.W.Frag} {H : Hp} : ∀ {bs : List Addr} {rs : List (List Nat)}, RowsO .tup H bs rs → DpAll K H (bs.map V.ref) (rs.map fun r => PyData.tuple (r.map fun n => PyData.int (n : Nat)))
  | [], [], _ => .nil
  | _ :: _, r :: _, h => .cons (.tup (SqT.of h.1) (nvs_data r)) h.2.data
  | [], _ :: _, h => h.elim
  | _ :: _, [], h => h.elim
where nvs_data {K : PySem.W.Frag} {H : Hp} : ∀ r : List Nat, DpAll K H (nvs r) (r.map fun n => PyData.int (n : Nat))
  | [] => .nil
  | n :: r => .cons (.int _) (nvs_data r)
def LayI (t : TA) (σ : L2.St) (row : List Nat) : Prop := ∀ (H : Hp) (R : List V → Hp → Prop), R (nvs row) H → t σ H R
def LayO (te : TE) (σ : L2.St) (o : List V → HO) (row : List Nat) : Prop := ∀ (H : Hp) (Q : VK), (∀ b H', Same H H' → H b = none → H' b = some (o (nvs row)) → Q (.ref b) H') → te σ H Q
def LayN (t : TA) (σ : L2.St) (o : List V → HO) (rows : List (List Nat)) : Prop := ∀ (H : Hp) (R : List V → Hp → Prop), (∀ bs H', Same H H' → RowsO o H' bs rows → R (bs.map V.ref) H') → t σ H R
theorem layO_l {t : TA} {σ : L2.St} {row : List Nat} (h : LayI t σ row) (hl : row.length ≤ 1000) : LayO (tLst t) σ .lst row := fun H Q q =>
  h H _ ⟨Nat.le_of_lt (small1000 (by simpa using hl)), fun p hp => q p _ (Wp.same_upd hp) hp upd_same⟩
theorem layO_t {t : TA} {σ : L2.St} {row : List Nat} (h : LayI t σ row) (hl : row.length ≤ 1000) : LayO (tTup t) σ .tup row := fun H Q q =>
  h H _ ⟨Nat.le_of_lt (small1000 (by simpa using hl)), fun p hp => q p _ (Wp.same_upd hp) hp upd_same⟩
theorem layN_nil {σ : L2.St} {o : List V → HO} : LayN tNil σ o [] := fun H R q => q [] H (Same.refl _) trivial
theorem layN_cons {te : TE} {t : TA} {σ : L2.St} {o : List V → HO} {row : List Nat} {rows : List (List Nat)} (h1 : LayO te σ o row) (h2 : LayN t σ o rows) : LayN (tCons te t) σ o (row :: rows) := fun H R q =>
  h1 H _ fun b H' s hb e => h2 H' _ fun bs H2 s2 hr => q (b :: bs) H2 (s.trans s2) ⟨s2 _ _ e, hr⟩
theorem none_of_same {H H' : Hp} {p : Addr} (s : Same H H') (h : H' p = none) : H p = none := by
  cases e : H p with
  | none => rfl
  | some o => rw [s _ _ e] at h; cases h
theorem layM_l {t : TA} {σ : L2.St} {o : List V → HO} {rows : List (List Nat)} (h : LayN t σ o rows) (hl : rows.length ≤ 1000) (H : Hp) (Q : VK) (q : ∀ M bs H', Same H H' → H M = none → H' M = some (.lst (bs.map V.ref)) → RowsO o H' bs rows → (∀ b ∈ bs, b ≠ M) → Q (.ref M) H') : tLst t σ H Q := by
  refine h H _ fun bs H' s hr => ⟨Nat.le_of_lt (small1000 (by rw [List.length_map, hr.len]; exact hl)), fun p hp => ?_⟩
  have hne : ∀ b ∈ bs, b ≠ p := fun b hb e => by
    obtain ⟨i, hi, e2⟩ := List.mem_iff_getElem.mp hb
    obtain ⟨r, _, h3⟩ := hr.at (List.getElem?_eq_some_iff.mpr ⟨hi, e2⟩)
    rw [e, hp] at h3
    cases h3
  exact q p bs _ (s.trans (Wp.same_upd hp)) (none_of_same s hp) upd_same (hr.same (Wp.same_upd hp)) hne
end Bk
set_option Elab.async false
set_option linter.all false
set_option maxRecDepth 100000
namespace Bk
open PySem PySem.Spec PyProof.Rows L2
/-! tuples of numbers as data -/
abbrev iD (n : Nat) : PyData := .int (n : Nat)
abbrev tD (r : List Nat) : PyData := .tuple (r.map iD)
theorem iDs_eqv : ∀ a b : List Nat, PyData.eqvAll (a.map iD) (b.map iD) = decide (a = b)
  | [], [] => rfl
  | [], _ :: _ => rfl
  | _ :: _, [] => rfl
  | x :: a, y :: b => by
    rw [List.map_cons, List.map_cons, PyData.eqvAll, iDs_eqv a b]
    have e : PyData.eqv (iD x) (iD y) = decide (x = y) := by
      simp only [PyData.eqv]
      by_cases h : x = y
      · simp [h]
      · have : ((x : Nat) : Int) ≠ (y : Nat) := fun e => h (Int.ofNat.inj e)
        simp [h, this]
    rw [e]
    by_cases h1 : x = y <;> by_cases h2 : a = b <;> simp [h1, h2]
theorem tD_eqv (a b : List Nat) : PyData.eqv (tD a) (tD b) = decide (a = b) := by rw [PyData.eqv]; exact iDs_eqv a b
theorem iDs_can : ∀ a : List Nat, PyData.canLayAll0 (a.map iD) = true ∧ PyData.depthAll (a.map iD) ≤ 1
  | [] => ⟨rfl, Nat.zero_le _⟩
  | x :: a => by
    obtain ⟨h1, h2⟩ := iDs_can a
    rw [List.map_cons]
    refine ⟨by simp [PyData.canLayAll0, PyData.canLay0, h1], ?_⟩
    simp only [PyData.depthAll, PyData.depth]
    omega
theorem tD_shaped (a : List Nat) : SeqAt.shaped (tD a) = true ∧ (tD a).depth ≤ 60 := by
  obtain ⟨h1, h2⟩ := iDs_can a
  have h3 : (tD a).depth ≤ 3 := by
    show PyData.depth (.tuple _) ≤ 3
    simp only [PyData.depth]
    omega
  refine ⟨?_, by omega⟩
  unfold SeqAt.shaped
  rw [Bool.and_eq_true]
  refine ⟨?_, decide_eq_true (by omega)⟩
  show PyData.canLay0 (.tuple _) = true
  rw [PyData.canLay0]
  exact h1
theorem shaped_row {ds : List PyData} (h : ∀ d ∈ ds, SeqAt.shaped d = true ∧ d.depth ≤ 60) : SeqAt.shaped (.list ds) = true := by
  have h1 : ∀ {ds : List PyData}, (∀ d ∈ ds, SeqAt.shaped d = true ∧ d.depth ≤ 60) → PyData.canLayAll0 ds = true ∧ PyData.depthAll ds ≤ 60 := by
    intro ds
    induction ds with
    | nil => intro _; exact ⟨rfl, Nat.zero_le _⟩
    | cons d ds ih =>
      intro h
      obtain ⟨a1, a2⟩ := ih fun e he => h e (List.mem_cons_of_mem _ he)
      obtain ⟨b1, b2⟩ := h d List.mem_cons_self
      refine ⟨by simp [PyData.canLayAll0, SeqAt.canLay_of_shaped b1, a1], ?_⟩
      simp only [PyData.depthAll]
      omega
  obtain ⟨a1, a2⟩ := h1 h
  unfold SeqAt.shaped
  rw [Bool.and_eq_true]
  refine ⟨by rw [PyData.canLay0]; exact a1, decide_eq_true ?_⟩
  simp only [PyData.depth]
  omega
theorem rows_shaped (rows : List (List Nat)) : SeqAt.shaped (.list (rows.map tD)) = true := shaped_row fun d hd => by
  obtain ⟨r, _, rfl⟩ := List.mem_map.mp hd
  exact tD_shaped r
theorem rows_idx {rows : List (List Nat)} {r : List Nat} (h : r ∈ rows) : (rows.map tD)[rows.idxOf r]? = some (tD r) ∧ ∀ (m : Nat) (z : PyData), m < rows.idxOf r → (rows.map tD)[m]? = some z → PyData.eqv z (tD r) = false := by
  have h1 := List.idxOf_lt_length_of_mem h
  refine ⟨?_, fun m z hm e => ?_⟩
  · rw [List.getElem?_map, List.getElem?_eq_getElem h1, List.getElem_idxOf h1]; rfl
  · rw [List.getElem?_map] at e
    obtain ⟨r', e1, rfl⟩ := Option.map_eq_some_iff.mp e
    rw [tD_eqv]
    refine decide_eq_false fun e2 => ?_
    subst e2
    obtain ⟨hm2, e3⟩ := List.getElem?_eq_some_iff.mp e1
    have := List.not_of_lt_findIdx (p := (· == r')) (xs := rows) (i := m) (by simpa [List.idxOf] using hm)
    simp [e3] at this
theorem nv_at {r : List Nat} {i n : Nat} (h : r[i]? = some n) : atI (nvs r) (i : Int) = some (V.int (n : Nat)) := atI_nat (by rw [List.getElem?_map, h]; rfl)
end Bk
set_option Elab.async false
set_option linter.all false
set_option maxRecDepth 100000
namespace Bk
open PySem PySem.Spec PyProof.Rows L2
/-! all arrows of some parts, in the law's order -/
abbrev shR (s : Nat × Nat) : List Nat := [s.1, s.2]
abbrev arR (a : Arw) : List Nat := [a.1, a.2.1, a.2.2.1, a.2.2.2]
theorem arR_inj {a d : Arw} (h : arR a = arR d) : a = d := by
  obtain ⟨a1, a2, a3, a4⟩ := a
  obtain ⟨d1, d2, d3, d4⟩ := d
  simp at h
  simp [h]
def gL (k i j n : Nat) : List Arw := (List.range n).flatMap fun g => if i ≠ j ∨ g ≠ 0 then [(k, i, g, j)] else []
def jL (k i c n : Nat) : List Arw := (List.range n).flatMap fun j => gL k i j (ordN c)
def iL (k c m n : Nat) : List Arw := (List.range n).flatMap fun i => jL k i c m
def arwTo (sh : List (Nat × Nat)) (n : Nat) : List Arw := (List.range n).flatMap fun k => iL k (sh.getD k (1, 0)).1 (sh.getD k (1, 0)).2 (sh.getD k (1, 0)).2
def arwL (sh : List (Nat × Nat)) : List Arw := arwTo sh sh.length
theorem gL_succ {k i j n : Nat} : gL k i j (n + 1) = gL k i j n ++ if i ≠ j ∨ n ≠ 0 then [(k, i, n, j)] else [] := by unfold gL; rw [List.range_succ, List.flatMap_append]; simp
theorem jL_succ {k i c n : Nat} : jL k i c (n + 1) = jL k i c n ++ gL k i n (ordN c) := by unfold jL; rw [List.range_succ, List.flatMap_append]; simp
theorem iL_succ {k c m n : Nat} : iL k c m (n + 1) = iL k c m n ++ jL k n c m := by unfold iL; rw [List.range_succ, List.flatMap_append]; simp
theorem arwTo_succ {sh : List (Nat × Nat)} {n : Nat} : arwTo sh (n + 1) = arwTo sh n ++ iL n (sh.getD n (1, 0)).1 (sh.getD n (1, 0)).2 (sh.getD n (1, 0)).2 := by unfold arwTo; rw [List.range_succ, List.flatMap_append]; simp
theorem fm_len {α β : Type} {f : α → List β} {b : Nat} : ∀ {l : List α}, (∀ x ∈ l, (f x).length ≤ b) → (l.flatMap f).length ≤ l.length * b
  | [], _ => by simp
  | x :: l, h => by
    rw [List.flatMap_cons, List.length_append, List.length_cons, Nat.add_mul]
    have := fm_len (f := f) (b := b) (l := l) fun y hy => h y (List.mem_cons_of_mem _ hy)
    have := h x List.mem_cons_self
    omega
theorem gL_len {k i j n : Nat} : (gL k i j n).length ≤ n := by
  have := fm_len (f := fun g => if i ≠ j ∨ g ≠ 0 then [((k, i, g, j) : Arw)] else []) (b := 1) (l := List.range n) fun x _ => by split <;> simp
  unfold gL
  simpa using this
theorem ord_le : ∀ c ∈ codes, 0 < ordN c ∧ ordN c ≤ 6 := by decide +kernel
theorem jL_len {k i c n : Nat} (hc : c ∈ codes) : (jL k i c n).length ≤ n * 6 := by
  have := fm_len (f := fun j => gL k i j (ordN c)) (b := 6) (l := List.range n) fun x _ => Nat.le_trans gL_len (ord_le c hc).2
  unfold jL
  simpa using this
theorem iL_len {k c m n : Nat} (hc : c ∈ codes) (hm : m ≤ 3) : (iL k c m n).length ≤ n * 18 := by
  have := fm_len (f := fun i => jL k i c m) (b := 18) (l := List.range n) fun x _ => by
    have := jL_len (k := k) (i := x) (n := m) hc
    omega
  unfold iL
  simpa using this
def ShOk (sh : List (Nat × Nat)) : Prop := ∀ s ∈ sh, s.1 ∈ codes ∧ s.2 ≤ 3
theorem getD_of {α : Type} {l : List α} {k : Nat} {d x : α} (h : l[k]? = some x) : l.getD k d = x := by rw [List.getD_eq_getElem?_getD, h]; rfl
theorem arwTo_len {sh : List (Nat × Nat)} (ok : ShOk sh) : ∀ {n : Nat}, n ≤ sh.length → (arwTo sh n).length ≤ n * 54
  | 0, _ => by simp [arwTo]
  | n + 1, h => by
    have := arwTo_len ok (n := n) (by omega)
    have e : sh[n]? = some sh[n] := List.getElem?_eq_getElem h
    obtain ⟨hc, hm⟩ := ok _ (List.mem_of_getElem? e)
    rw [arwTo_succ, getD_of e, List.length_append]
    have := iL_len (k := n) (m := sh[n].2) (n := sh[n].2) hc hm
    omega
theorem mem_arwL {sh : List (Nat × Nat)} {a : Arw} : a ∈ arwL sh ↔ okA sh a := by
  obtain ⟨k, i, g, j⟩ := a
  unfold arwL arwTo iL jL gL okA
  simp only [List.mem_flatMap, List.mem_range]
  constructor
  · rintro ⟨k', hk, i', hi, j', hj, g', hg, h⟩
    split at h
    · rename_i hne
      rw [List.mem_singleton] at h
      simp only [Prod.mk.injEq] at h
      obtain ⟨q1, q2, q3, q4⟩ := h
      subst q1 q2 q3 q4
      have e : sh[k]? = some sh[k] := List.getElem?_eq_getElem hk
      rw [getD_of e] at hi hj hg
      exact ⟨sh[k].1, sh[k].2, e, hi, hj, hg, hne⟩
    · cases h
  · rintro ⟨c, m, e, hi, hj, hg, hne⟩
    have hk := (List.getElem?_eq_some_iff.mp e).1
    refine ⟨k, hk, i, by rw [getD_of e]; exact hi, j, by rw [getD_of e]; exact hj, g, by rw [getD_of e]; exact hg, ?_⟩
    rw [if_pos hne]
    exact List.mem_singleton.mpr rfl
theorem rng_ne {n : Nat} : (List.range n).Pairwise (· ≠ ·) := List.pairwise_lt_range.imp fun h => Nat.ne_of_lt h
theorem nodup_arwL {sh : List (Nat × Nat)} : (arwL sh).Nodup := by
  have mg : ∀ {k i j n : Nat} {a : Arw}, a ∈ gL k i j n → a.1 = k ∧ a.2.1 = i ∧ a.2.2.2 = j := fun {k i j n a} h => by
    unfold gL at h
    obtain ⟨g, _, h⟩ := List.mem_flatMap.mp h
    split at h
    · rw [List.mem_singleton.mp h]; exact ⟨rfl, rfl, rfl⟩
    · cases h
  have mj : ∀ {k i c n : Nat} {a : Arw}, a ∈ jL k i c n → a.1 = k ∧ a.2.1 = i := fun {k i c n a} h => by
    unfold jL at h
    obtain ⟨j, _, h⟩ := List.mem_flatMap.mp h
    exact ⟨(mg h).1, (mg h).2.1⟩
  have mi : ∀ {k c m n : Nat} {a : Arw}, a ∈ iL k c m n → a.1 = k := fun {k c m n a} h => by
    unfold iL at h
    obtain ⟨i, _, h⟩ := List.mem_flatMap.mp h
    exact (mj h).1
  have ng : ∀ k i j n, (gL k i j n).Pairwise (· ≠ ·) := fun k i j n => by
    unfold gL
    rw [List.pairwise_flatMap]
    refine ⟨fun g _ => by split <;> simp, rng_ne.imp fun {g g'} h x hx y hy => ?_⟩
    split at hx
    · split at hy
      · rw [List.mem_singleton.mp hx, List.mem_singleton.mp hy]
        intro e
        simp at e
        exact h e
      · cases hy
    · cases hx
  have nj : ∀ k i c n, (jL k i c n).Pairwise (· ≠ ·) := fun k i c n => by
    unfold jL
    rw [List.pairwise_flatMap]
    exact ⟨fun j _ => ng _ _ _ _, rng_ne.imp fun {j j'} h x hx y hy e => h ((mg hx).2.2.symm.trans (e ▸ (mg hy).2.2))⟩
  have ni : ∀ k c m n, (iL k c m n).Pairwise (· ≠ ·) := fun k c m n => by
    unfold iL
    rw [List.pairwise_flatMap]
    exact ⟨fun j _ => nj _ _ _ _, rng_ne.imp fun {j j'} h x hx y hy e => h ((mj hx).2.symm.trans (e ▸ (mj hy).2))⟩
  show (arwL sh).Pairwise (· ≠ ·)
  unfold arwL arwTo
  rw [List.pairwise_flatMap]
  exact ⟨fun j _ => ni _ _ _ _, rng_ne.imp fun {j j'} h x hx y hy e => h ((mi hx).symm.trans (e ▸ (mi hy)))⟩
/-- a list of such rows -/
def Lrows (H : Hp) (M : Addr) (rows : List (List Nat)) : Prop := ∃ bs : List Addr, H M = some (.lst (bs.map V.ref)) ∧ RowsO .tup H bs rows
theorem Lrows.same {H H' : Hp} {M : Addr} {rows : List (List Nat)} (s : Same H H') : Lrows H M rows → Lrows H' M rows := fun ⟨bs, h1, h2⟩ => ⟨bs, s _ _ h1, h2.same s⟩
theorem Lrows.keep {H H' : Hp} {M A : Addr} {rows : List (List Nat)} {us : List V} (k : Wp.Keep A H H') (hA : H A = some (.lst us)) (hne : M ≠ A) : Lrows H M rows → Lrows H' M rows := fun ⟨bs, h1, h2⟩ => ⟨bs, k _ _ hne h1, h2.keepT hA k⟩
theorem Lrows.push {H : Hp} {M p : Addr} {rows : List (List Nat)} {bs : List Addr} {r : List Nat} (h1 : H M = some (.lst (bs.map V.ref))) (h2 : RowsO .tup H bs rows) (hp : H p = some (.tup (nvs r))) : Lrows (upd H M (.lst (bs.map V.ref ++ [.ref p]))) M (rows ++ [r]) := by
  have hpM : p ≠ M := fun e => by rw [e, h1] at hp; cases hp
  refine ⟨bs ++ [p], by rw [List.map_append]; exact upd_same, (h2.keepT h1 (Wp.Keep.upd M H _)).app (RowsO.one (by rw [upd_ne hpM]; exact hp))⟩
theorem Lrows.nil {H : Hp} {M : Addr} : Lrows (upd H M (.lst [])) M [] := ⟨[], upd_same, trivial⟩
theorem seqIx {j n : Nat} (h : j < n) : seqIndex? (j : Int) n = some j := by
  unfold seqIndex?
  have : ¬ (j : Int) < 0 := by omega
  simp [this, h]
theorem perm_erase {α : Type} {l : List α} {j : Nat} (h : j < l.length) : ([l[j]] ++ l.eraseIdx j).Perm l := by
  have e : l = l.take j ++ ([l[j]] ++ l.drop (j + 1)) := by
    rw [List.singleton_append, ← List.drop_eq_getElem_cons h, List.take_append_drop]
  rw [List.eraseIdx_eq_take_drop_succ, ← List.append_assoc]
  conv => rhs; rw [e]
  rw [← List.append_assoc]
  exact List.Perm.append_right _ List.perm_append_comm
end Bk
set_option Elab.async false
set_option linter.all false
set_option maxRecDepth 100000
namespace Bk
open PySem PySem.Spec PyProof.Rows L2
/-! rows in another order -/
theorem perm_refs {ys zs : List V} (h : ys.Perm zs) : ∀ {bs : List Addr}, zs = bs.map V.ref → ∃ ds : List Addr, ys = ds.map V.ref ∧ ds.Perm bs := by
  induction h with
  | nil =>
    intro bs e
    have : bs = [] := List.map_eq_nil_iff.mp e.symm
    exact ⟨[], rfl, by rw [this]⟩
  | cons x h ih =>
    intro bs e
    cases bs with
    | nil => cases e
    | cons b bs =>
      rw [List.map_cons] at e
      injection e with e1 e2
      obtain ⟨ds, h1, h2⟩ := ih e2
      exact ⟨b :: ds, by rw [List.map_cons, h1, e1], h2.cons b⟩
  | swap x y l =>
    intro bs e
    cases bs with
    | nil => cases e
    | cons b bs =>
      cases bs with
      | nil => simp at e
      | cons b2 bs =>
        rw [List.map_cons, List.map_cons] at e
        injection e with e1 e2
        injection e2 with e2 e3
        exact ⟨b2 :: b :: bs, by rw [List.map_cons, List.map_cons, e1, e2, e3], .swap _ _ _⟩
  | trans h1 h2 ih1 ih2 =>
    intro bs e
    obtain ⟨ds, g1, g2⟩ := ih2 e
    obtain ⟨cs, g3, g4⟩ := ih1 g1
    exact ⟨cs, g3, g4.trans g2⟩
inductive Par {α β : Type} (R : α → β → Prop) : List α → List β → Prop
  | nil : Par R [] []
  | cons {a : α} {b : β} {as : List α} {bs : List β} : R a b → Par R as bs → Par R (a :: as) (b :: bs)
theorem Par.perm {α β : Type} {R : α → β → Prop} {ys zs : List β} (h : ys.Perm zs) : ∀ {xs : List α}, Par R xs zs → ∃ us, us.Perm xs ∧ Par R us ys := by
  induction h with
  | nil => intro xs k; cases k; exact ⟨[], .refl _, .nil⟩
  | cons x h ih =>
    intro xs k
    cases k with
    | cons h1 h2 =>
      obtain ⟨us, g1, g2⟩ := ih h2
      exact ⟨_ :: us, g1.cons _, .cons h1 g2⟩
  | swap x y l =>
    intro xs k
    cases k with
    | cons h1 h2 =>
      cases h2 with
      | cons h3 h4 => exact ⟨_ :: _ :: _, .swap _ _ _, .cons h3 (.cons h1 h4)⟩
  | trans h1 h2 ih1 ih2 =>
    intro xs k
    obtain ⟨us, g1, g2⟩ := ih2 k
    obtain ⟨ws, g3, g4⟩ := ih1 g2
    exact ⟨ws, g3.trans g1, g4⟩
theorem par_rows {α : Type} {f : α → List Nat} {o : List V → HO} {H : Hp} : ∀ {bs : List Addr} {xs : List α}, RowsO o H bs (xs.map f) → Par (fun x b => H b = some (o (nvs (f x)))) xs bs
  | [], [], _ => .nil
  | _ :: _, _ :: _, h => .cons h.1 (par_rows h.2)
  | [], _ :: _, h => h.elim
  | _ :: _, [], h => h.elim
theorem rows_par {α : Type} {f : α → List Nat} {o : List V → HO} {H : Hp} : ∀ {bs : List Addr} {xs : List α}, Par (fun x b => H b = some (o (nvs (f x)))) xs bs → RowsO o H bs (xs.map f)
  | _, _, .nil => trivial
  | _, _, .cons h1 h2 => ⟨h1, rows_par h2⟩
theorem par_rules {H : Hp} : ∀ {bs : List Addr} {rs : List (Str × Str)}, RulesAt H bs rs → Par (fun (p : Str × Str) b => H b = some (.tup [.str p.1, .str p.2])) rs bs
  | [], [], _ => .nil
  | _ :: _, _ :: _, h => .cons h.1 (par_rules h.2)
  | [], _ :: _, h => h.elim
  | _ :: _, [], h => h.elim
theorem rules_par {H : Hp} : ∀ {bs : List Addr} {rs : List (Str × Str)}, Par (fun (p : Str × Str) b => H b = some (.tup [.str p.1, .str p.2])) rs bs → RulesAt H bs rs
  | _, _, .nil => trivial
  | _, _, .cons h1 h2 => ⟨h1, rules_par h2⟩
theorem rows_shuf {α : Type} {f : α → List Nat} {o : List V → HO} {H : Hp} {bs : List Addr} {xs : List α} {ys : List V} (h : RowsO o H bs (xs.map f)) (hp : ys.Perm (bs.map V.ref)) : ∃ (ds : List Addr) (us : List α), ys = ds.map V.ref ∧ us.Perm xs ∧ RowsO o H ds (us.map f) := by
  obtain ⟨ds, h1, h2⟩ := perm_refs hp rfl
  obtain ⟨us, h3, h4⟩ := Par.perm h2 (par_rows h)
  exact ⟨ds, us, h1, h3, rows_par h4⟩
theorem rules_shuf {H : Hp} {bs : List Addr} {rs : List (Str × Str)} {ys : List V} (h : RulesAt H bs rs) (hp : ys.Perm (bs.map V.ref)) : ∃ (ds : List Addr) (us : List (Str × Str)), ys = ds.map V.ref ∧ us.Perm rs ∧ RulesAt H ds us := by
  obtain ⟨ds, h1, h2⟩ := perm_refs hp rfl
  obtain ⟨us, h3, h4⟩ := Par.perm h2 (par_rules h)
  exact ⟨ds, us, h1, h3, rules_par h4⟩
/-! the rules of arrows, row by row -/
section
variable {Pl : Type} [DecidableEq Pl] {b e : Nat → Pl} {pr : Nat → Nat → Option Nat}
def rowG (b e : Nat → Pl) (pr : Nat → Nat → Option Nat) (x : Nat) (ys : List Nat) : List (Str × Str) := ys.flatMap fun y => if e x = b y then [(mkS [x, y], mkS (pr x y).toList)] else []
def grpL (b e : Nat → Pl) (pr : Nat → Nat → Option Nat) (xs ys : List Nat) : List (Str × Str) := xs.flatMap fun x => rowG b e pr x ys
theorem rowG_snoc {x y : Nat} {ys : List Nat} : rowG b e pr x (ys ++ [y]) = rowG b e pr x ys ++ if e x = b y then [(mkS [x, y], mkS (pr x y).toList)] else [] := by unfold rowG; rw [List.flatMap_append]; simp
theorem grpL_snoc {x : Nat} {xs ys : List Nat} : grpL b e pr (xs ++ [x]) ys = grpL b e pr xs ys ++ rowG b e pr x ys := by unfold grpL; rw [List.flatMap_append]; simp
theorem rowG_len {x : Nat} {ys : List Nat} : (rowG b e pr x ys).length ≤ ys.length := by
  have := fm_len (f := fun y => if e x = b y then [(mkS [x, y], mkS (pr x y).toList)] else []) (b := 1) (l := ys) fun x _ => by split <;> simp
  unfold rowG
  simpa using this
theorem grpL_len {xs ys : List Nat} : (grpL b e pr xs ys).length ≤ xs.length * ys.length := fm_len fun x _ => rowG_len
theorem mem_rowG {x : Nat} {ys : List Nat} {p : Str × Str} : p ∈ rowG b e pr x ys ↔ ∃ y ∈ ys, e x = b y ∧ p = (mkS [x, y], mkS (pr x y).toList) := by
  unfold rowG
  rw [List.mem_flatMap]
  constructor
  · rintro ⟨y, hy, h⟩
    split at h
    · rename_i hc
      exact ⟨y, hy, hc, List.mem_singleton.mp h⟩
    · cases h
  · rintro ⟨y, hy, hc, rfl⟩
    exact ⟨y, hy, by rw [if_pos hc]; exact List.mem_singleton.mpr rfl⟩
theorem mkS_inj {a c : List Nat} (h : mkS a = mkS c) : a = c := by
  have := congrArg cl h
  simpa [cl_mk] using this
theorem grpL_bk {sg : List Nat} (hn : sg.Nodup) {rs : List (Str × Str)} (hp : rs.Perm (grpL b e pr sg sg)) : Gbk sg b e pr rs := by
  refine ⟨hp.nodup_iff.mpr ?_, fun p => ?_⟩
  · show (grpL b e pr sg sg).Pairwise (· ≠ ·)
    unfold grpL
    rw [List.pairwise_flatMap]
    refine ⟨fun x _ => ?_, List.Pairwise.imp (fun {x x'} h p hp q hq e => ?_) hn⟩
    · unfold rowG
      rw [List.pairwise_flatMap]
      refine ⟨fun y _ => by split <;> simp, List.Pairwise.imp (fun {y y'} h p hp q hq e2 => ?_) hn⟩
      split at hp
      · split at hq
        · rw [List.mem_singleton.mp hp, List.mem_singleton.mp hq] at e2
          have := mkS_inj (Prod.mk.inj e2).1
          simp at this
          exact h this
        · cases hq
      · cases hp
    · obtain ⟨y, _, _, rfl⟩ := mem_rowG.mp hp
      obtain ⟨y', _, _, rfl⟩ := mem_rowG.mp hq
      have := mkS_inj (Prod.mk.inj e).1
      simp at this
      exact h this.1
  · rw [hp.mem_iff]
    unfold grpL
    rw [List.mem_flatMap]
    constructor
    · rintro ⟨x, hx, h⟩
      obtain ⟨y, hy, hc, rfl⟩ := mem_rowG.mp h
      exact ⟨x, hx, y, hy, hc, rfl⟩
    · rintro ⟨x, hx, y, hy, hc, rfl⟩
      exact ⟨x, hx, mem_rowG.mpr ⟨y, hy, hc, rfl⟩⟩
end
/-! the law's two dicts -/
abbrev arK (a : Arw) : List Key := (arR a).map fun n => Sum.inl ((n : Nat) : Int)
theorem arK_inj {a d : Arw} (h : arK a = arK d) : a = d := by
  refine arR_inj ?_
  obtain ⟨a1, a2, a3, a4⟩ := a
  obtain ⟨d1, d2, d3, d4⟩ := d
  simp at h
  simp only [arR]
  rw [Int.ofNat.inj h.1, Int.ofNat.inj h.2.1, Int.ofNat.inj h.2.2.1, Int.ofNat.inj h.2.2.2]
/-- an arrow's sign -/
def SgnD (S : List Nat) (As : List Arw) (n : Nat) (kvs : List (List Key × V)) : Prop := ∀ a, valV kvs (arK a) = if a ∈ As.take n then some (.str (mkS [sgnOf S As a])) else none
theorem SgnD.put {S : List Nat} {As : List Arw} {n x : Nat} {a : Arw} {kvs : List (List Key × V)} (h : SgnD S As n kvs) (nd : As.Nodup) (ha : As[n]? = some a) (hx : S[n]? = some x) : SgnD S As (n + 1) (putK kvs (arK a) (.str (mkS [x]))) := fun d => by
  rw [valV_put]
  have e : As.take (n + 1) = As.take n ++ [a] := by rw [List.take_add_one, ha]; rfl
  have hs : sgnOf S As a = x := by
    unfold sgnOf
    obtain ⟨hn, e2⟩ := List.getElem?_eq_some_iff.mp ha
    rw [← e2, nd.idxOf_getElem _ hn, getD_of hx]
  by_cases hd : arK d = arK a
  · have := arK_inj hd
    subst this
    rw [if_pos rfl, if_pos (by rw [e]; simp), hs]
  · have hne : d ≠ a := fun q => hd (by rw [q])
    rw [if_neg hd, h d, e]
    simp [hne]
/-- a sign's arrow -/
def ArwD (S : List Nat) (ds : List Addr) (n : Nat) (kvs : List (Key × V)) : Prop := ∀ m x, m < n → S[m]? = some x → ∃ b, ds[m]? = some b ∧ valV kvs (Sum.inr (mkS [x])) = some (.ref b)
theorem ArwD.put {S : List Nat} {ds : List Addr} {n x : Nat} {b : Addr} {kvs : List (Key × V)} (h : ArwD S ds n kvs) (nd : S.Nodup) (hb : ds[n]? = some b) (hx : S[n]? = some x) : ArwD S ds (n + 1) (putK kvs (Sum.inr (mkS [x])) (.ref b)) := fun m y hm hy => by
  rw [valV_put]
  rcases Nat.lt_or_ge m n with z | z
  · obtain ⟨c, h1, h2⟩ := h m y z hy
    refine ⟨c, h1, ?_⟩
    rw [if_neg, h2]
    intro e
    have e2 := mkS_inj (Sum.inr.inj e)
    simp at e2
    subst e2
    obtain ⟨q1, q2⟩ := List.getElem?_eq_some_iff.mp hy
    obtain ⟨q3, q4⟩ := List.getElem?_eq_some_iff.mp hx
    have := (List.getElem_inj (xs := S) (h₀ := q1) (h₁ := q3) nd).mp (q2.trans q4.symm)
    omega
  · have : m = n := by omega
    subst this
    rw [hx] at hy
    cases hy
    exact ⟨b, hb, by rw [if_pos rfl]⟩
/-- what the law says two arrows make -/
theorem Sgd.made {sh : List (Nat × Nat)} {S : List Nat} {As : List Arw} (h : Sgd sh S As) {x y : Nat} (hx : x ∈ S) (hy : y ∈ S) (hc : eS S As x = bS S As y) :
    (if ((arwOf S As x).1, (arwOf S As x).2.1, mulN (codeA sh (arwOf S As x)) (arwOf S As x).2.2.1 (arwOf S As y).2.2.1, (arwOf S As y).2.2.2) ∈ As then mkS [sgnOf S As ((arwOf S As x).1, (arwOf S As x).2.1, mulN (codeA sh (arwOf S As x)) (arwOf S As x).2.2.1 (arwOf S As y).2.2.1, (arwOf S As y).2.2.2)] else "") = mkS (prS sh S As x y).toList := by
  have o1 := (h.ok _).mp (h.arw hx).1
  have o2 := (h.ok _).mp (h.arw hy).1
  unfold prS
  cases hm : mulA sh (arwOf S As x) (arwOf S As y) with
  | none =>
    rw [if_neg]
    · rfl
    · intro hin
      obtain ⟨c, m, e1, a1, a2, a3, a4⟩ := (h.ok _).mp hin
      unfold mulA at hm
      split at hm
      · rename_i z
        rcases a4 with q | q
        · exact q z.1
        · exact q z.2
      · cases hm
  | some r =>
    obtain ⟨k1, _, _⟩ := mulA_ok h.co o1 o2 hc hm
    have hr : r = ((arwOf S As x).1, (arwOf S As x).2.1, mulN (codeA sh (arwOf S As x)) (arwOf S As x).2.2.1 (arwOf S As y).2.2.1, (arwOf S As y).2.2.2) := by
      unfold mulA at hm
      split at hm
      · cases hm
      · exact (Option.some.inj hm).symm
    rw [← hr, if_pos ((h.ok _).mpr k1)]
    rfl
theorem tbl_at : ∀ c ∈ codes, ∀ g < ordN c, ∀ h < ordN c, (tblN c)[g]? = some ((tblN c).getD g []) ∧ ((tblN c).getD g [])[h]? = some (mulN c g h) := by decide +kernel
theorem ArwD.all {S : List Nat} {As : List Arw} {ds : List Addr} {kvs : List (Key × V)} {H : Hp} (h : ArwD S ds As.length kvs) (hl : S.length = As.length) (hR : RowsO .tup H ds (As.map arR)) : ∀ x ∈ S, ∃ b, valV kvs (Sum.inr (mkS [x])) = some (.ref b) ∧ H b = some (.tup (nvs (arR (arwOf S As x)))) := fun x hx => by
  have h1 := List.idxOf_lt_length_of_mem hx
  have e1 : S[S.idxOf x]? = some x := by rw [List.getElem?_eq_getElem h1, List.getElem_idxOf h1]
  obtain ⟨b, h2, h3⟩ := h _ x (by omega) e1
  obtain ⟨r, h4, h5⟩ := hR.at h2
  refine ⟨b, h3, ?_⟩
  rw [List.getElem?_map] at h4
  obtain ⟨a, h6, rfl⟩ := Option.map_eq_some_iff.mp h4
  rw [h5]
  unfold arwOf
  rw [getD_of h6]
theorem SgnD.get {S : List Nat} {As : List Arw} {kvt : List (List Key × V)} (h : SgnD S As As.length kvt) (a : Arw) : (valV kvt (arK a)).getD (.str "") = .str (if a ∈ As then mkS [sgnOf S As a] else "") := by
  rw [h a, List.take_length]
  split <;> rfl
end Bk
set_option Elab.async false
set_option linter.all false
set_option maxRecDepth 100000
namespace Bk
open PySem PySem.Spec PyProof.Rows L2
/-! places in the order of the first signs that begin there -/
section
variable {Pl : Type} [DecidableEq Pl] {b e : Nat → Pl}
def pls (b : Nat → Pl) (l : List Nat) : List Pl := l.foldl (fun ps x => if b x ∈ ps then ps else ps ++ [b x]) []
theorem pls_snoc {l : List Nat} {x : Nat} : pls b (l ++ [x]) = if b x ∈ pls b l then pls b l else pls b l ++ [b x] := by unfold pls; rw [List.foldl_append]; rfl
theorem pls_ind {l : List Nat} {C : List Nat → Prop} (h0 : C []) (hs : ∀ l x, C l → C (l ++ [x])) : C l := by
  rw [← List.reverse_reverse l]
  induction l.reverse with
  | nil => exact h0
  | cons x r ih => rw [List.reverse_cons]; exact hs _ _ ih
theorem mem_pls {l : List Nat} {p : Pl} : p ∈ pls b l ↔ ∃ x ∈ l, b x = p := by
  refine pls_ind (C := fun l => p ∈ pls b l ↔ ∃ x ∈ l, b x = p) (by simp [pls]) (fun l x ih => ?_)
  rw [pls_snoc]
  split
  · rename_i h
    rw [ih]
    constructor
    · rintro ⟨y, hy, e⟩; exact ⟨y, List.mem_append_left _ hy, e⟩
    · rintro ⟨y, hy, e⟩
      rcases List.mem_append.mp hy with z | z
      · exact ⟨y, z, e⟩
      · rw [List.mem_singleton.mp z] at e
        rw [e] at h
        exact ih.mp h
  · rw [List.mem_append, ih, List.mem_singleton]
    constructor
    · rintro (⟨y, hy, e⟩ | e)
      · exact ⟨y, List.mem_append_left _ hy, e⟩
      · exact ⟨x, List.mem_append_right _ (List.mem_singleton.mpr rfl), e.symm⟩
    · rintro ⟨y, hy, e⟩
      rcases List.mem_append.mp hy with z | z
      · exact .inl ⟨y, z, e⟩
      · rw [List.mem_singleton.mp z] at e
        exact .inr e.symm
theorem nodup_pls {l : List Nat} : (pls b l).Nodup := by
  refine pls_ind (C := fun l => (pls b l).Nodup) (by simp [pls]) (fun l x ih => ?_)
  rw [pls_snoc]
  split
  · exact ih
  · rename_i h
    refine List.nodup_append.mpr ⟨ih, by simp, fun a ha c hc e => ?_⟩
    rw [List.mem_singleton.mp hc] at e
    exact h (e ▸ ha)
theorem pls_len {l : List Nat} : (pls b l).length ≤ l.length := by
  refine pls_ind (C := fun l => (pls b l).length ≤ l.length) (by simp [pls]) (fun l x ih => ?_)
  rw [pls_snoc, List.length_append]
  split
  · omega
  · rw [List.length_append]; simp; omega
/-- a place's number -/
def pix (b : Nat → Pl) (l : List Nat) (p : Pl) : Nat := (pls b l).idxOf p
theorem pix_old {l : List Nat} {x : Nat} {p : Pl} (h : p ∈ pls b l) : pix b (l ++ [x]) p = pix b l p := by
  unfold pix
  rw [pls_snoc]
  split
  · rfl
  · rw [List.idxOf_append, if_pos h]
theorem pix_new {l : List Nat} {x : Nat} (h : b x ∉ pls b l) : pix b (l ++ [x]) (b x) = (pls b l).length := by
  unfold pix
  rw [pls_snoc, if_neg h, List.idxOf_append, if_neg h]
  simp
theorem pix_lt {l : List Nat} {p : Pl} (h : p ∈ pls b l) : pix b l p < (pls b l).length := List.idxOf_lt_length_of_mem h
theorem pix_at {l : List Nat} {p : Pl} (h : p ∈ pls b l) : (pls b l)[pix b l p]? = some p := by
  rw [List.getElem?_eq_getElem (pix_lt h)]
  exact congrArg some (List.getElem_idxOf (pix_lt h))
theorem pix_get {l : List Nat} {i : Nat} {p : Pl} (h : (pls b l)[i]? = some p) : pix b l p = i := by
  obtain ⟨hi, rfl⟩ := List.getElem?_eq_some_iff.mp h
  exact nodup_pls.idxOf_getElem _ hi
theorem pix_inj {l : List Nat} {p q : Pl} (hp : p ∈ pls b l) (hq : q ∈ pls b l) (h : pix b l p = pix b l q) : p = q := by
  have h1 := pix_at hp
  rw [h, pix_at hq] at h1
  exact (Option.some.inj h1).symm
end
/-! dicts of signs -/
abbrev sk (x : Nat) : Key := Sum.inr (mkS [x])
theorem sk_inj {x y : Nat} (h : sk x = sk y) : x = y := by
  have := mkS_inj (Sum.inr.inj h)
  simpa using this
def sgD (l : List Nat) (v : Nat → V) : List (Key × V) := l.map fun x => (sk x, v x)
theorem sgD_get {v : Nat → V} {x : Nat} : ∀ {l : List Nat}, x ∈ l → valV (sgD l v) (sk x) = some (v x)
  | y :: l, h => by
    unfold sgD
    rw [List.map_cons]
    by_cases e : y = x
    · subst e
      exact valV_pos rfl
    · rw [valV_neg (fun q => e (sk_inj q))]
      exact sgD_get (by
        rcases List.mem_cons.mp h with z | z
        · exact absurd z.symm e
        · exact z)
theorem sgD_none {v : Nat → V} {x : Nat} : ∀ {l : List Nat}, x ∉ l → valV (sgD l v) (sk x) = none
  | [], _ => rfl
  | y :: l, h => by
    unfold sgD
    rw [List.map_cons, valV_neg (fun q => h (by rw [sk_inj q]; exact List.mem_cons_self))]
    exact sgD_none fun z => h (List.mem_cons_of_mem _ z)
theorem sgD_put {v : Nat → V} {x : Nat} {y : V} {l : List Nat} (h : x ∉ l) : putK (sgD l v) (sk x) y = sgD l v ++ [(sk x, y)] := L2.putK_new _ (sgD_none h)
theorem sgD_congr {v u : Nat → V} {l : List Nat} (h : ∀ x ∈ l, v x = u x) : sgD l v = sgD l u := List.map_congr_left fun x hx => by rw [h x hx]
theorem sgD_snoc {v : Nat → V} {x : Nat} {l : List Nat} : sgD (l ++ [x]) v = sgD l v ++ [(sk x, v x)] := by unfold sgD; rw [List.map_append]; rfl
theorem sgD_len {v : Nat → V} {l : List Nat} : (sgD l v).length = l.length := List.length_map _
abbrev numD (l : List Nat) (g : Nat → Nat) : List (Key × V) := sgD l fun x => V.int (g x : Nat)
/-- the products of two signs -/
def RtAt {Pl : Type} [DecidableEq Pl] (H : Hp) (d : Addr) (sg : List Nat) (b e : Nat → Pl) (pr : Nat → Nat → Option Nat) : Prop := ∃ kvs, H d = some (.dK kvs) ∧ ∀ x ∈ sg, ∀ y ∈ sg, valV kvs (Sum.inr (mkS [x, y])) = if e x = b y then some (.str (mkS (pr x y).toList)) else none
/-- the sign that undoes a sign -/
def UnAt (H : Hp) (d : Addr) (sg : List Nat) (inv : Nat → Nat) : Prop := ∃ kvs, H d = some (.dK kvs) ∧ ∀ x ∈ sg, valV kvs (sk x) = some (.str (mkS [inv x]))
theorem RtAt.same {Pl : Type} [DecidableEq Pl] {H H' : Hp} {d : Addr} {sg : List Nat} {b e : Nat → Pl} {pr : Nat → Nat → Option Nat} (s : Same H H') (h : RtAt H d sg b e pr) : RtAt H' d sg b e pr := by
  obtain ⟨kvs, h1, h2⟩ := h
  exact ⟨kvs, s _ _ h1, h2⟩
theorem UnAt.same {H H' : Hp} {d : Addr} {sg : List Nat} {inv : Nat → Nat} (s : Same H H') (h : UnAt H d sg inv) : UnAt H' d sg inv := by
  obtain ⟨kvs, h1, h2⟩ := h
  exact ⟨kvs, s _ _ h1, h2⟩
/-- the least numbers that places lead to -/
structure Roots (sg : List Nat) (n : Nat) (f g : Nat → Nat) (rs : List Nat) : Prop where
  len : rs.length = n
  le : ∀ (i r : Nat), rs[i]? = some r → r ≤ i
  at_ : ∀ (i r : Nat), rs[i]? = some r → r = i ∨ ∃ x ∈ sg, f x = i ∧ g x = r
  low : ∀ (i r : Nat), rs[i]? = some r → ∀ x ∈ sg, f x = i → r ≤ g x
theorem Roots.step {l : List Nat} {n x : Nat} {f g : Nat → Nat} {rs : List Nat} {r : Nat} (h : Roots l n f g rs) (hr : rs[f x]? = some r) : Roots (l ++ [x]) n f g (rs.set (f x) (if g x < r then g x else r)) := by
  obtain ⟨hf, _⟩ := List.getElem?_eq_some_iff.mp hr
  have hl := h.le _ _ hr
  refine ⟨by rw [List.length_set]; exact h.len, fun i s hs => ?_, fun i s hs => ?_, fun i s hs y hy hfy => ?_⟩
  · by_cases e : f x = i
    · subst e
      rw [List.getElem?_set_self hf] at hs
      cases hs
      split <;> omega
    · rw [List.getElem?_set_ne e] at hs
      exact h.le _ _ hs
  · by_cases e : f x = i
    · subst e
      rw [List.getElem?_set_self hf] at hs
      cases hs
      split
      · exact .inr ⟨x, by simp, rfl, rfl⟩
      · rcases h.at_ _ _ hr with z | ⟨y, hy, q1, q2⟩
        · exact .inl z
        · exact .inr ⟨y, List.mem_append_left _ hy, q1, q2⟩
    · rw [List.getElem?_set_ne e] at hs
      rcases h.at_ _ _ hs with z | ⟨y, hy, q1, q2⟩
      · exact .inl z
      · exact .inr ⟨y, List.mem_append_left _ hy, q1, q2⟩
  · by_cases e : f x = i
    · subst e
      rw [List.getElem?_set_self hf] at hs
      cases hs
      rcases List.mem_append.mp hy with z | z
      · have := h.low _ _ hr y z hfy
        split <;> omega
      · rw [List.mem_singleton.mp z]
        split <;> omega
    · rw [List.getElem?_set_ne e] at hs
      rcases List.mem_append.mp hy with z | z
      · exact h.low _ _ hs y z hfy
      · rw [List.mem_singleton.mp z] at hfy
        exact absurd hfy e
theorem Roots.start {n : Nat} {f g : Nat → Nat} : Roots [] n f g (List.range n) := by
  refine ⟨by simp, fun i r h => ?_, fun i r h => ?_, fun i r h x hx => nomatch hx⟩
  · rw [List.getElem?_eq_some_iff] at h
    obtain ⟨h1, h2⟩ := h
    simp at h2
    omega
  · rw [List.getElem?_eq_some_iff] at h
    obtain ⟨h1, h2⟩ := h
    simp at h2
    exact .inl h2.symm
end Bk
set_option Elab.async false
set_option linter.all false
set_option maxRecDepth 100000
namespace Bk
open PySem PySem.Spec PyProof.Rows L2
/-! lists with the same members, none of them twice -/
theorem perm_mem {α : Type} [DecidableEq α] {us vs : List α} (h1 : us.Nodup) (h2 : vs.Nodup) (h : ∀ x, x ∈ us ↔ x ∈ vs) : us.Perm vs := by
  rw [List.perm_iff_count]
  intro x
  rw [h1.count, h2.count]
  by_cases z : x ∈ us
  · rw [if_pos z, if_pos ((h x).mp z)]
  · rw [if_neg z, if_neg fun q => z ((h x).mpr q)]
theorem nodup_map {α β : Type} {f : α → β} {l : List α} (hn : l.Nodup) (hf : ∀ x ∈ l, ∀ y ∈ l, f x = f y → x = y) : (l.map f).Nodup := by
  induction l with
  | nil => exact List.nodup_nil
  | cons x l ih =>
    obtain ⟨h1, h2⟩ := List.nodup_cons.mp hn
    rw [List.map_cons, List.nodup_cons]
    refine ⟨fun hm => ?_, ih h2 fun a ha b hb => hf a (List.mem_cons_of_mem _ ha) b (List.mem_cons_of_mem _ hb)⟩
    obtain ⟨y, hy, e⟩ := List.mem_map.mp hm
    rw [hf y (List.mem_cons_of_mem _ hy) x List.mem_cons_self e] at hy
    exact h1 hy
/-! the parts of a groupoid, told and by the law -/
def headsOf (ro : List Nat) : List Nat := (List.range ro.length).filter fun i => decide (ro[i]? = some i)
def tabS (b e : Nat → Nat × Nat) (sg : List Nat) (i : Nat) : Str := mkS (sg.filter fun y => decide (b y = e y) && decide (pix b sg (b y) = i))
def isNew (ps : List (Nat × Nat)) (i : Nat) : Bool := decide (∀ q ∈ ps.take i, some q.1 ≠ (ps[i]?).map (·.1))
def lawLs (sg : List Nat) (As : List Arw) (p : Nat × Nat) : List Nat := sg.filter fun y => decide (bS sg As y = p) && decide (eS sg As y = p)
def lawTab (sg : List Nat) (As : List Arw) (p : Nat × Nat) : Str := mkS (sg.filter fun y => decide (bS sg As y = p) && decide (eS sg As y = p))
def newsOf (ps : List (Nat × Nat)) (n : Nat) : List Nat := (List.range n).filter (isNew ps)
def tabL (sg : List Nat) (As : List Arw) (ps : List (Nat × Nat)) (n : Nat) : List ((Nat × Nat) × Str) := ((List.range n).filter (isNew ps)).map fun i => (ps.getD i (0, 0), lawTab sg As (ps.getD i (0, 0)))
section
variable {sh : List (Nat × Nat)} {S : List Nat} {As : List Arw}
theorem Sgd.okx (h : Sgd sh S As) {x : Nat} (hx : x ∈ S) : okA sh (arwOf S As x) := (h.ok _).mp (h.arw hx).1
theorem Sgd.place (h : Sgd sh S As) {p : Nat × Nat} (hp : p ∈ pls (bS S As) S) : ∃ c m, sh[p.1]? = some (c, m) ∧ p.2 < m ∧ c ∈ codes := by
  obtain ⟨x, hx, rfl⟩ := mem_pls.mp hp
  obtain ⟨c, m, e1, a1, a2, a3, a4⟩ := h.okx hx
  exact ⟨c, m, e1, a1, h.co _ (List.mem_of_getElem? e1)⟩
theorem Sgd.of (h : Sgd sh S As) {a : Arw} (ha : okA sh a) : ∃ x ∈ S, arwOf S As x = a := by
  obtain ⟨h1, h2⟩ := h.sgn ((h.ok a).mpr ha)
  exact ⟨_, h1, h2⟩
theorem Sgd.way (h : Sgd sh S As) {p q : Nat × Nat} (hp : p ∈ pls (bS S As) S) (hq : q ∈ pls (bS S As) S) (hk : p.1 = q.1) (hne : p ≠ q) : ∃ x ∈ S, bS S As x = p ∧ eS S As x = q := by
  obtain ⟨c, m, e1, a1, hc⟩ := h.place hp
  obtain ⟨c', m', e2, a2, _⟩ := h.place hq
  obtain ⟨p1, p2⟩ := p
  obtain ⟨q1, q2⟩ := q
  simp only at *
  subst hk
  rw [e1] at e2
  cases e2
  obtain ⟨x, hx, e⟩ := h.of (a := (p1, p2, 0, q2)) ⟨c, m, e1, a1, a2, (ord_le c hc).1, .inl fun z => hne (by rw [show p2 = q2 from z])⟩
  refine ⟨x, hx, ?_, ?_⟩
  · unfold bS; rw [e]
  · unfold eS; rw [e]
/-- each part has an arrow at each of its places -/
def ShP (sh : List (Nat × Nat)) : Prop := ∀ s ∈ sh, 0 < s.2 ∧ (1 < s.2 ∨ 1 < ordN s.1)
theorem Sgd.pl (h : Sgd sh S As) (hp : ShP sh) {k i c m : Nat} (e : sh[k]? = some (c, m)) (hi : i < m) : (k, i) ∈ pls (bS S As) S := by
  obtain ⟨h0, h1⟩ := hp _ (List.mem_of_getElem? e)
  have hc := h.co _ (List.mem_of_getElem? e)
  have key : ∀ a, okA sh a → fromA a = (k, i) → (k, i) ∈ pls (bS S As) S := fun a ha hf => by
    obtain ⟨x, hx, ex⟩ := h.of ha
    refine mem_pls.mpr ⟨x, hx, ?_⟩
    unfold bS
    rw [ex, hf]
  by_cases z : 1 < m
  · by_cases z0 : i = 0
    · exact key (k, i, 0, 1) ⟨c, m, e, hi, z, (ord_le c hc).1, .inl (by simp only; omega)⟩ rfl
    · exact key (k, i, 0, 0) ⟨c, m, e, hi, h0, (ord_le c hc).1, .inl z0⟩ rfl
  · rcases h1 with h1 | h1
    · exact absurd h1 z
    · exact key (k, i, 1, i) ⟨c, m, e, hi, hi, h1, .inr (by simp)⟩ rfl
def plcL (sh : List (Nat × Nat)) : List (Nat × Nat) := (List.range sh.length).flatMap fun k => (List.range (sh.getD k (1, 0)).2).map fun i => (k, i)
end
/-! loops are closed under products -/
section
variable {Pl : Type} [DecidableEq Pl] {sg : List Nat} {b e : Nat → Pl} {pr : Nat → Nat → Option Nat} {inv : Nat → Nat} {rs : List (Str × Str)}
def goF (pr : Nat → Nat → Option Nat) (x : Nat) (o : Option Nat) : Option Nat := match o with
  | some y => pr x y
  | none => some x
theorem Gpd.back (g : Gpd sg b e pr inv) {x x' : Nat} (hx : x ∈ sg) (hx' : x' ∈ sg) (he : e x' = b x) (hp : pr x' x = none) (o : Option Nat) (ho : ∀ y, o = some y → y ∈ sg ∧ e x = b y) : goF pr x' (goF pr x o) = o := by
  cases o with
  | none => exact hp
  | some y =>
    obtain ⟨hy, hc⟩ := ho y rfl
    have as := g.as x' hx' x hx y hy he hc
    rw [hp] at as
    show goF pr x' (pr x y) = some y
    cases hq : pr x y with
    | none => rw [hq] at as; exact as.symm
    | some v => rw [hq] at as; exact as.symm
def loopL (sg : List Nat) (b e : Nat → Pl) (p : Pl) : List Nat := sg.filter fun y => decide (b y = p) && decide (e y = p)
theorem mem_loopL {p : Pl} {y : Nat} : y ∈ loopL sg b e p ↔ y ∈ sg ∧ b y = p ∧ e y = p := by
  unfold loopL
  rw [List.mem_filter, Bool.and_eq_true, decide_eq_true_eq, decide_eq_true_eq]
def insL (sg : List Nat) (b e : Nat → Pl) (p : Pl) : List (Option Nat) := none :: (loopL sg b e p).map some
theorem mem_insL {p : Pl} {o : Option Nat} : o ∈ insL sg b e p ↔ ∀ y, o = some y → y ∈ sg ∧ b y = p ∧ e y = p := by
  unfold insL
  cases o with
  | none => simp
  | some y =>
    rw [List.mem_cons, List.mem_map]
    constructor
    · rintro (q | ⟨z, hz, q⟩)
      · cases q
      · cases q
        intro w hw
        cases hw
        exact mem_loopL.mp hz
    · intro h
      exact .inr ⟨y, mem_loopL.mpr (h y rfl), rfl⟩
theorem Gpd.go (g : Gpd sg b e pr inv) {p : Pl} {x : Nat} (hx : x ∈ loopL sg b e p) {o : Option Nat} (ho : o ∈ insL sg b e p) : goF pr x o ∈ insL sg b e p := by
  rw [mem_insL] at *
  obtain ⟨hx1, hx2, hx3⟩ := mem_loopL.mp hx
  cases o with
  | none => intro y hy; cases hy; exact ⟨hx1, hx2, hx3⟩
  | some y =>
    obtain ⟨h1, h2, h3⟩ := ho y rfl
    intro u hu
    obtain ⟨c1, c2, c3⟩ := g.cl x hx1 y h1 (by rw [hx3, h2]) u hu
    exact ⟨c1, by rw [c2, hx2], by rw [c3, h3]⟩
theorem Gpd.closed (g : Gpd sg b e pr inv) {p : Pl} {x : Nat} (hx : x ∈ loopL sg b e p) : ((insL sg b e p).map (goF pr x)).Perm (insL sg b e p) := by
  obtain ⟨hx1, hx2, hx3⟩ := mem_loopL.mp hx
  obtain ⟨i1, i2, i3, i4, i5⟩ := g.iv x hx1
  have hxi : inv x ∈ loopL sg b e p := mem_loopL.mpr ⟨i1, by rw [i2, hx3], by rw [i3, hx2]⟩
  have hb : ∀ o ∈ insL sg b e p, goF pr (inv x) (goF pr x o) = o := fun o ho => g.back hx1 i1 i3 i5 o fun y hy => by
    obtain ⟨h1, h2, _⟩ := mem_insL.mp ho y hy
    exact ⟨h1, by rw [hx3, h2]⟩
  have hf : ∀ o ∈ insL sg b e p, goF pr x (goF pr (inv x) o) = o := fun o ho => g.back i1 hx1 i2.symm i4 o fun y hy => by
    obtain ⟨h1, h2, _⟩ := mem_insL.mp ho y hy
    exact ⟨h1, by rw [i3, hx2, h2]⟩
  have hn : (insL sg b e p).Nodup := by
    unfold insL
    rw [List.nodup_cons]
    refine ⟨fun q => ?_, nodup_map (List.Pairwise.filter _ g.nd) fun a _ c _ q => Option.some.inj q⟩
    obtain ⟨_, _, q⟩ := List.mem_map.mp q
    cases q
  refine perm_mem (nodup_map hn fun o ho o' ho' q => ?_) hn fun o => ?_
  · rw [← hb o ho, ← hb o' ho', q]
  · rw [List.mem_map]
    constructor
    · rintro ⟨o', ho', rfl⟩
      exact g.go hx ho'
    · intro ho
      exact ⟨_, g.go hxi ho, hf o ho⟩
end
end Bk
set_option Elab.async false
set_option linter.all false
set_option maxRecDepth 100000
namespace Bk
open PySem PySem.Spec PyProof.Rows L2
def leTx (x y : Str) : Bool := decide (cl x ≤ cl y)
def leNm (x y : Nat) : Bool := decide (x ≤ y)
abbrev sortS (xs : List Str) : List Str := xs.mergeSort leTx
abbrev sortN (xs : List Nat) : List Nat := xs.mergeSort leNm
end Bk
set_option Elab.async false
set_option linter.all false
set_option maxRecDepth 100000
namespace Bk
open PySem PySem.Spec PyProof.Rows L2
open Cf (Step Star Nf)
/-! a text some times, and undone -/
def powT (w : List Nat) : Nat → List Nat
  | 0 => []
  | n + 1 => powT w n ++ w
theorem powT_add (w : List Nat) (m : Nat) : ∀ n, powT w (m + n) = powT w m ++ powT w n
  | 0 => by simp [powT]
  | n + 1 => by
    show powT w (m + n) ++ w = _
    rw [powT_add w m n, List.append_assoc]; rfl
theorem powT_one (w : List Nat) : powT w 1 = w := by simp [powT]
theorem powT_comm (w : List Nat) : ∀ n, w ++ powT w n = powT w n ++ w := fun n => by
  have h1 := powT_add w 1 n
  have h2 := powT_add w n 1
  rw [powT_one] at h1 h2
  rw [← h1, ← h2, Nat.add_comm]
theorem powT_mem {w : List Nat} {c : Nat} : ∀ {n}, c ∈ powT w n → c ∈ w
  | 0, h => nomatch h
  | n + 1, h => by
    rcases List.mem_append.mp h with z | z
    · exact powT_mem z
    · exact z
def invT (inv : Nat → Nat) (w : List Nat) : List Nat := w.reverse.map inv
theorem invT_app (inv : Nat → Nat) (u v : List Nat) : invT inv (u ++ v) = invT inv v ++ invT inv u := by unfold invT; rw [List.reverse_append, List.map_append]
section
variable {Pl : Type} {sg : List Nat} {b e : Nat → Pl} {pr : Nat → Nat → Option Nat} {inv : Nat → Nat} {rs : List (Str × Str)}
theorem Gpd.inv_mem (g : Gpd sg b e pr inv) {w : List Nat} (h : ∀ c ∈ w, c ∈ sg) : ∀ c ∈ invT inv w, c ∈ sg := fun c hc => by
  obtain ⟨x, hx, rfl⟩ := List.mem_map.mp hc
  exact (g.iv x (h x (List.mem_reverse.mp hx))).1
theorem Gpd.inv_inv (g : Gpd sg b e pr inv) {x : Nat} (hx : x ∈ sg) : inv (inv x) = x := by
  obtain ⟨h1, h2, h3, h4, h5⟩ := g.iv x hx
  exact (g.iu _ h1 _ hx h3 h5).symm
theorem Gpd.invT_invT (g : Gpd sg b e pr inv) {w : List Nat} (h : ∀ c ∈ w, c ∈ sg) : invT inv (invT inv w) = w := by
  unfold invT
  rw [← List.map_reverse, List.reverse_reverse, List.map_map]
  conv => rhs; rw [← List.map_id w]
  exact List.map_congr_left fun x hx => g.inv_inv (h x hx)
theorem Gbk.app (h : Gbk sg b e pr rs) (g : Gpd sg b e pr inv) {u v u' v' : List Nat} (h1 : overP rs u = overP rs v) (h2 : overP rs u' = overP rs v') : overP rs (u ++ u') = overP rs (v ++ v') := (nf_over h.good).app (h.set g) h1 h2
theorem Gbk.cong (h : Gbk sg b e pr rs) (g : Gpd sg b e pr inv) {u v : List Nat} (x y : List Nat) (h1 : overP rs u = overP rs v) : overP rs (x ++ u ++ y) = overP rs (x ++ v ++ y) := (nf_over h.good).cong (h.set g) x y h1
theorem Gbk.nn (h : Gbk sg b e pr rs) (u : List Nat) : overP rs (overP rs u) = overP rs u := (nf_over h.good).nf_nf u
theorem Gbk.nil (h : Gbk sg b e pr rs) : overP rs [] = [] := h.over1 (by simp)
/-- nothing in the middle falls out -/
theorem Gbk.out (h : Gbk sg b e pr rs) (g : Gpd sg b e pr inv) {u : List Nat} (x y : List Nat) (h1 : overP rs u = []) : overP rs (x ++ u ++ y) = overP rs (x ++ y) := by
  have := h.cong g x y (u := u) (v := []) (by rw [h1, h.nil])
  rwa [List.append_nil] at this
theorem Gbk.undo (h : Gbk sg b e pr rs) (g : Gpd sg b e pr inv) : ∀ {w : List Nat}, (∀ c ∈ w, c ∈ sg) → overP rs (w ++ invT inv w) = []
  | [], _ => h.nil
  | x :: w, hw => by
    have ih := Gbk.undo h g (w := w) fun c hc => hw c (List.mem_cons_of_mem _ hc)
    have hx := hw x List.mem_cons_self
    obtain ⟨h1, h2, h3, h4, h5⟩ := g.iv x hx
    have e1 : x :: w ++ invT inv (x :: w) = [x] ++ (w ++ invT inv w) ++ [inv x] := by
      unfold invT
      simp
    rw [e1, h.out g [x] [inv x] ih, show [x] ++ [inv x] = [x, inv x] from rfl, h.over2 hx h1 h2.symm, h4]
    rfl
theorem Gbk.undoL (h : Gbk sg b e pr rs) (g : Gpd sg b e pr inv) {w : List Nat} (hw : ∀ c ∈ w, c ∈ sg) : overP rs (invT inv w ++ w) = [] := by
  have := h.undo g (g.inv_mem hw)
  rwa [g.invT_invT hw] at this
/-- a text stands for nothing so many times -/
def pz (rs : List (Str × Str)) (w : List Nat) (n : Nat) : Prop := overP rs (powT w n) = []
instance {w : List Nat} {n : Nat} : Decidable (pz rs w n) := by unfold pz; infer_instance
theorem Gbk.pow_over (h : Gbk sg b e pr rs) (g : Gpd sg b e pr inv) {u v : List Nat} (h1 : overP rs u = overP rs v) : ∀ n, overP rs (powT u n) = overP rs (powT v n)
  | 0 => rfl
  | n + 1 => h.app g (Gbk.pow_over h g h1 n) h1
theorem Gbk.pz_over (h : Gbk sg b e pr rs) (g : Gpd sg b e pr inv) {u v : List Nat} (h1 : overP rs u = overP rs v) (n : Nat) : pz rs u n ↔ pz rs v n := by
  unfold pz
  rw [h.pow_over g h1 n]
theorem Gbk.pow_conj (h : Gbk sg b e pr rs) (g : Gpd sg b e pr inv) {u w : List Nat} (hu : ∀ c ∈ u, c ∈ sg) : ∀ n, overP rs (powT (u ++ w ++ invT inv u) n) = overP rs (u ++ powT w n ++ invT inv u)
  | 0 => by
    show overP rs [] = overP rs (u ++ [] ++ invT inv u)
    rw [List.append_nil, h.undo g hu, h.nil]
  | n + 1 => by
    have h1 := h.app g (Gbk.pow_conj h g (w := w) hu n) (rfl : overP rs (u ++ w ++ invT inv u) = _)
    show overP rs (powT (u ++ w ++ invT inv u) n ++ (u ++ w ++ invT inv u)) = _
    rw [h1]
    have e1 : u ++ powT w n ++ invT inv u ++ (u ++ w ++ invT inv u) = (u ++ powT w n) ++ (invT inv u ++ u) ++ (w ++ invT inv u) := by simp
    rw [e1, h.out g _ _ (h.undoL g hu)]
    show _ = overP rs (u ++ (powT w n ++ w) ++ invT inv u)
    congr 1
    simp
theorem Gbk.conj_nil (h : Gbk sg b e pr rs) (g : Gpd sg b e pr inv) {u w : List Nat} (hu : ∀ c ∈ u, c ∈ sg) : overP rs (u ++ w ++ invT inv u) = [] ↔ overP rs w = [] := by
  constructor
  · intro hz
    have h1 := h.out g (u := u ++ w ++ invT inv u) (invT inv u) u hz
    rw [h.undoL g hu] at h1
    have e1 : invT inv u ++ (u ++ w ++ invT inv u) ++ u = (invT inv u ++ u) ++ (w ++ (invT inv u ++ u)) := by simp
    rw [e1] at h1
    have h2 := h.out g (u := invT inv u ++ u) [] (w ++ (invT inv u ++ u)) (h.undoL g hu)
    rw [List.nil_append, List.nil_append] at h2
    rw [h2] at h1
    have h3 := h.out g (u := invT inv u ++ u) w [] (h.undoL g hu)
    rw [List.append_nil, List.append_nil] at h3
    rw [← h3, h1]
  · intro hz
    rw [h.out g _ _ hz, h.undo g hu]
theorem Gbk.pz_conj (h : Gbk sg b e pr rs) (g : Gpd sg b e pr inv) {u w : List Nat} (hu : ∀ c ∈ u, c ∈ sg) (n : Nat) : pz rs (u ++ w ++ invT inv u) n ↔ pz rs w n := by
  unfold pz
  rw [h.pow_conj g hu n]
  exact h.conj_nil g hu
/-! the order of a text, up to nine -/
def dueN (rs : List (Str × Str)) (w : List Nat) : Option Nat := ((List.range 9).find? fun k => decide (pz rs w (k + 1))).map (· + 1)
theorem dueN_congr {u v : List Nat} (h : ∀ n, pz rs u n ↔ pz rs v n) : dueN rs u = dueN rs v := by
  unfold dueN
  congr 1
  congr 1
  funext k
  exact decide_eq_decide.mpr (h (k + 1))
theorem dueN_some {w : List Nat} {n : Nat} (h0 : 0 < n) (h9 : n ≤ 9) (hz : pz rs w n) (hl : ∀ k, 0 < k → k < n → ¬ pz rs w k) : dueN rs w = some n := by
  unfold dueN
  have h1 : (List.range 9).find? (fun k => decide (pz rs w (k + 1))) = some (n - 1) := by
    rw [List.find?_range_eq_some]
    refine ⟨decide_eq_true (by rw [show n - 1 + 1 = n by omega]; exact hz), List.mem_range.mpr (by omega), fun j hj => ?_⟩
    rw [Bool.not_eq_true', decide_eq_false_iff_not]
    exact hl _ (by omega) (by omega)
  rw [h1]
  show some (n - 1 + 1) = _
  rw [show n - 1 + 1 = n by omega]
theorem dueN_none {w : List Nat} (h : ∀ n, 0 < n → ¬ pz rs w n) : dueN rs w = none := by
  unfold dueN
  have h1 : (List.range 9).find? (fun k => decide (pz rs w (k + 1))) = none := by
    rw [List.find?_eq_none]
    intro k _
    rw [decide_eq_true_eq]
    exact h _ (by omega)
  rw [h1]; rfl
/-! texts in which no two neighbours can be joined -/
def NJ (b e : Nat → Pl) : List Nat → Prop
  | x :: y :: r => e x ≠ b y ∧ NJ b e (y :: r)
  | _ => True
theorem nj_app {u v : List Nat} : NJ b e (u ++ v) ↔ NJ b e u ∧ NJ b e v ∧ ∀ x y, u.getLast? = some x → v.head? = some y → e x ≠ b y := by
  induction u with
  | nil => simp [NJ]
  | cons x u ih =>
    cases u with
    | nil =>
      cases v with
      | nil => simp [NJ]
      | cons y v =>
        show (e x ≠ b y ∧ NJ b e (y :: v)) ↔ _
        constructor
        · rintro ⟨h1, h2⟩
          refine ⟨trivial, h2, fun x' y' h3 h4 => ?_⟩
          simp at h3 h4
          rw [← h3, ← h4]
          exact h1
        · rintro ⟨_, h2, h3⟩
          exact ⟨h3 x y rfl rfl, h2⟩
    | cons x2 u =>
      show (e x ≠ b x2 ∧ NJ b e (x2 :: u ++ v)) ↔ (e x ≠ b x2 ∧ NJ b e (x2 :: u)) ∧ _
      rw [ih]
      have : (x :: x2 :: u).getLast? = (x2 :: u).getLast? := by simp [List.getLast?_cons]
      rw [this]
      exact ⟨fun ⟨a, c, d⟩ => ⟨⟨a, c⟩, d⟩, fun ⟨⟨a, c⟩, d⟩ => ⟨a, c, d⟩⟩
theorem Gbk.irr_nj (h : Gbk sg b e pr rs) {w : List Nat} (hn : NJ b e w) : Irr rs w := fun v s => by
  obtain ⟨x, l, r, y, k, e1, _⟩ := s
  obtain ⟨c, hc, d, hd, hj, rfl, _⟩ := h.rule k
  subst e1
  have h1 := (nj_app.mp (nj_app.mp hn).1).2.1
  exact h1.1 hj
theorem Gbk.nj_irr (h : Gbk sg b e pr rs) : ∀ {w : List Nat}, (∀ c ∈ w, c ∈ sg) → Irr rs w → NJ b e w
  | [], _, _ => trivial
  | [x], _, _ => trivial
  | x :: y :: r, hw, hi => by
    refine ⟨fun hj => ?_, Gbk.nj_irr h (fun c hc => hw c (List.mem_cons_of_mem _ hc)) fun v s => ?_⟩
    · exact hi _ ⟨[], [x, y], _, r, h.of (hw x List.mem_cons_self) (hw y (List.mem_cons_of_mem _ List.mem_cons_self)) hj, rfl, rfl⟩
    · have := s.ctx [x] []
      rw [List.append_nil, List.append_nil] at this
      exact hi _ this
theorem nj_pow {w : List Nat} (hn : NJ b e w) (hc : ∀ x y, w.getLast? = some x → w.head? = some y → e x ≠ b y) : ∀ n, NJ b e (powT w n) ∧ ∀ x, (powT w n).getLast? = some x → w.getLast? = some x
  | 0 => ⟨trivial, fun x h => by cases h⟩
  | n + 1 => by
    obtain ⟨h1, h2⟩ := nj_pow hn hc n
    refine ⟨nj_app.mpr ⟨h1, hn, fun x y hx hy => hc x y (h2 x hx) hy⟩, fun x hx => ?_⟩
    have hx' : (powT w n ++ w).getLast? = some x := hx
    rw [List.getLast?_append] at hx'
    cases hw : w.getLast? with
    | none =>
      rw [hw] at hx'
      have := h2 x (by simpa using hx')
      rw [hw] at this
      cases this
    | some z =>
      rw [hw] at hx'
      simpa using hx'
theorem Gbk.no_order (h : Gbk sg b e pr rs) {w : List Nat} (h0 : w ≠ []) (hn : NJ b e w) (hc : ∀ x y, w.getLast? = some x → w.head? = some y → e x ≠ b y) (n : Nat) (hn0 : 0 < n) : ¬ pz rs w n := fun hz => by
  unfold pz at hz
  rw [(nf_over h.good).fix (h.irr_nj (nj_pow hn hc n).1)] at hz
  cases n with
  | zero => omega
  | succ n =>
    have : powT w n ++ w = [] := hz
    exact h0 (List.append_eq_nil_iff.mp this).2
/-! the powers of a loop -/
def lp (pr : Nat → Nat → Option Nat) (x : Nat) : Nat → Option Nat
  | 0 => none
  | n + 1 => match lp pr x n with
    | none => some x
    | some y => pr y x
theorem lp_in [DecidableEq Pl] (g : Gpd sg b e pr inv) {x : Nat} (hx : x ∈ sg) (hl : e x = b x) : ∀ n y, lp pr x n = some y → y ∈ sg ∧ b y = b x ∧ e y = b x
  | 0, y, h => by cases h
  | n + 1, y, h => by
    unfold lp at h
    split at h
    · cases h
      exact ⟨hx, rfl, hl⟩
    · rename_i z hz
      obtain ⟨h1, h2, h3⟩ := lp_in g hx hl n z hz
      obtain ⟨c1, c2, c3⟩ := g.cl z h1 x hx h3 y h
      exact ⟨c1, by rw [c2, h2], by rw [c3, hl]⟩
theorem Gbk.lp_over [DecidableEq Pl] (h : Gbk sg b e pr rs) (g : Gpd sg b e pr inv) {x : Nat} (hx : x ∈ sg) (hl : e x = b x) : ∀ n, overP rs (powT [x] n) = (lp pr x n).toList
  | 0 => h.nil
  | n + 1 => by
    have ih := Gbk.lp_over h g hx hl n
    have h1 : overP rs (powT [x] n) = overP rs (lp pr x n).toList := by
      rw [ih, h.over1 (opt_len _)]
    show overP rs (powT [x] n ++ [x]) = _
    rw [h.app g h1 (rfl : overP rs [x] = _)]
    have e1 : lp pr x (n + 1) = match lp pr x n with
      | none => some x
      | some y => pr y x := rfl
    rw [e1]
    cases hp : lp pr x n with
    | none => exact h.over1 (by simp)
    | some y =>
      obtain ⟨h1, h2, h3⟩ := lp_in g hx hl n y hp
      exact h.over2 h1 hx h3
theorem Gbk.pz_lp [DecidableEq Pl] (h : Gbk sg b e pr rs) (g : Gpd sg b e pr inv) {x : Nat} (hx : x ∈ sg) (hl : e x = b x) (n : Nat) : pz rs [x] n ↔ lp pr x n = none := by
  unfold pz
  rw [h.lp_over g hx hl n]
  cases lp pr x n <;> simp
/-- the powers of a loop that are not nothing are all different, so they are few -/
theorem Gbk.lp_few [DecidableEq Pl] (h : Gbk sg b e pr rs) (g : Gpd sg b e pr inv) {x : Nat} (hx : x ∈ sg) (hl : e x = b x) {n : Nat} (hn : ∀ k, 0 < k → k ≤ n → lp pr x k ≠ none) : n ≤ sg.length := by
  have h1 : ((List.range n).map fun k => (lp pr x (k + 1)).getD 0).Nodup := by
    refine nodup_map rng_ne fun i hi j hj q => ?_
    rw [List.mem_range] at hi hj
    have key : ∀ i j : Nat, i < j → j < n → (lp pr x (i + 1)).getD 0 = (lp pr x (j + 1)).getD 0 → False := fun i j hij hj q => by
      have n1 := hn (i + 1) (by omega) (by omega)
      have n2 := hn (j + 1) (by omega) (by omega)
      have eq : lp pr x (i + 1) = lp pr x (j + 1) := by
        cases e1 : lp pr x (i + 1) with
        | none => exact absurd e1 n1
        | some y =>
          cases e2 : lp pr x (j + 1) with
          | none => exact absurd e2 n2
          | some z =>
            rw [e1, e2] at q
            rw [show y = z from q]
      have hw : ∀ c ∈ powT [x] (i + 1), c ∈ sg := fun c hc => by rw [List.mem_singleton.mp (powT_mem hc)]; exact hx
      have o1 : overP rs (powT [x] (i + 1)) = overP rs (powT [x] (j + 1)) := by rw [h.lp_over g hx hl, h.lp_over g hx hl, eq]
      have e2 : powT [x] (j + 1) = powT [x] (j - i) ++ powT [x] (i + 1) := by
        rw [← powT_add]
        congr 1
        omega
      rw [e2] at o1
      have o2 := h.app g o1 (rfl : overP rs (invT inv (powT [x] (i + 1))) = _)
      rw [h.undo g hw, List.append_assoc] at o2
      have o3 := h.out g (powT [x] (j - i)) [] (h.undo g hw)
      rw [List.append_nil, List.append_nil] at o3
      rw [o3] at o2
      exact hn (j - i) (by omega) (by omega) ((h.pz_lp g hx hl _).mp o2.symm)
    rcases Nat.lt_trichotomy i j with z | z | z
    · exact (key i j z hj q).elim
    · exact z
    · exact (key j i z hi q.symm).elim
  have h2 := nodup_le (vs := sg) h1 fun y hy => by
    obtain ⟨k, hk, rfl⟩ := List.mem_map.mp hy
    rw [List.mem_range] at hk
    cases e1 : lp pr x (k + 1) with
    | none => exact absurd e1 (hn (k + 1) (by omega) (by omega))
    | some y => exact (lp_in g hx hl _ y e1).1
  rw [List.length_map, List.length_range] at h2
  exact h2
theorem Gbk.over_mem (h : Gbk sg b e pr rs) (g : Gpd sg b e pr inv) {u : List Nat} (hu : ∀ c ∈ u, c ∈ sg) : (∀ c ∈ overP rs u, c ∈ sg) ∧ (overP rs u).length ≤ u.length := by
  have hs := (nf_over h.good).star u
  refine ⟨?_, hs.le (rr_short h.good)⟩
  generalize overP rs u = v at hs
  induction hs with
  | refl => exact hu
  | head s _ ih =>
    refine ih fun c hc => ?_
    obtain ⟨x, l, r, y, k, e1, e2⟩ := s
    obtain ⟨a, ha, d, hd, hj, rfl, rfl⟩ := h.rule k
    subst e1 e2
    rcases List.mem_append.mp hc with q | q
    · rcases List.mem_append.mp q with q | q
      · exact hu c (by simp [q])
      · cases hp : pr a d with
        | none => rw [hp] at q; cases q
        | some w =>
          rw [hp] at q
          rw [List.mem_singleton.mp q]
          exact (g.cl a ha d hd hj w hp).1
    · exact hu c (by simp [q])
theorem Gbk.over_nj (h : Gbk sg b e pr rs) (g : Gpd sg b e pr inv) {u : List Nat} (hu : ∀ c ∈ u, c ∈ sg) : NJ b e (overP rs u) := h.nj_irr (h.over_mem g hu).1 ((nf_over h.good).stop u)
/-! a text, unwrapped -/
theorem nj_take {w : List Nat} (h : NJ b e w) (n : Nat) : NJ b e (w.take n) := by
  rw [← List.take_append_drop n w] at h
  exact (nj_app.mp h).1
theorem nj_drop {w : List Nat} (h : NJ b e w) (n : Nat) : NJ b e (w.drop n) := by
  rw [← List.take_append_drop n w] at h
  exact (nj_app.mp h).2.1
theorem nj_at {w : List Nat} (h : NJ b e w) {i x y : Nat} (hx : w[i]? = some x) (hy : w[i + 1]? = some y) : e x ≠ b y := by
  have h1 := nj_drop h i
  have hi := (List.getElem?_eq_some_iff.mp hx).1
  have hi2 := (List.getElem?_eq_some_iff.mp hy).1
  rw [List.drop_eq_getElem_cons hi, List.drop_eq_getElem_cons hi2] at h1
  rw [List.getElem?_eq_getElem hi] at hx
  rw [List.getElem?_eq_getElem hi2] at hy
  cases hx
  cases hy
  exact h1.1
/-- what still stands between the ends -/
def mid (E : List Nat) (low high : Nat) : List Nat := (E.drop low).take (high - low)
theorem mid_cons {E : List Nat} {low high c : Nat} (hl : low < high) (hc : E[low]? = some c) : mid E low high = c :: mid E (low + 1) high := by
  unfold mid
  obtain ⟨hi, rfl⟩ := List.getElem?_eq_some_iff.mp hc
  rw [List.drop_eq_getElem_cons hi, show high - low = (high - (low + 1)) + 1 by omega, List.take_succ_cons]
theorem mid_snoc {E : List Nat} {low high c : Nat} (hl : low ≤ high) (hc : E[high]? = some c) : mid E low (high + 1) = mid E low high ++ [c] := by
  unfold mid
  rw [show high + 1 - low = (high - low) + 1 by omega, List.take_add_one, List.getElem?_drop, show low + (high - low) = high by omega, hc]
  rfl
theorem mid_at {E : List Nat} {low high i : Nat} (h : low + i < high) : (mid E low high)[i]? = E[low + i]? := by
  unfold mid
  rw [List.getElem?_take, if_pos (by omega), List.getElem?_drop]
theorem mid_len {E : List Nat} {low high : Nat} (h : low ≤ high) (h2 : high ≤ E.length) : (mid E low high).length = high - low := by
  unfold mid
  rw [List.length_take, List.length_drop]
  omega
theorem mid_mem {E : List Nat} {low high c : Nat} (h : c ∈ mid E low high) : c ∈ E := List.mem_of_mem_drop (List.mem_of_mem_take h)
/-- how a text is unwrapped -/
inductive Uw (b e : Nat → Pl) (pr : Nat → Nat → Option Nat) : List Nat → List Nat → List Nat → Prop
  | stop {E : List Nat} : (E.length ≤ 1 ∨ ∀ x y, E.getLast? = some x → E.head? = some y → e x ≠ b y) → Uw b e pr E [] E
  | one {c z u : Nat} {M : List Nat} : e z = b c → pr z c = some u → Uw b e pr (c :: (M ++ [z])) [c] (M ++ [u])
  | off {c z : Nat} {M A W : List Nat} : e z = b c → pr z c = none → Uw b e pr M A W → Uw b e pr (c :: (M ++ [z])) (c :: A) W
theorem ends_eq2 {c c' z z' : Nat} {M M' : List Nat} (h : c :: (M ++ [z]) = c' :: (M' ++ [z'])) : c = c' ∧ M = M' ∧ z = z' := by
  obtain ⟨h1, h2⟩ := List.cons.inj h
  have h3 := List.append_inj' h2 rfl
  exact ⟨h1, h3.1, by simpa using h3.2⟩
theorem go_stop {c z : Nat} {M : List Nat} (hj : e z = b c) : ¬ ((c :: (M ++ [z])).length ≤ 1 ∨ ∀ x y, (c :: (M ++ [z])).getLast? = some x → (c :: (M ++ [z])).head? = some y → e x ≠ b y) := by
  rintro (h | h)
  · simp at h
  · exact h z c (by rw [show c :: (M ++ [z]) = (c :: M) ++ [z] from rfl, List.getLast?_append]; rfl) rfl hj
theorem Uw.det {E A W A' W' : List Nat} (h : Uw b e pr E A W) : Uw b e pr E A' W' → A = A' ∧ W = W' := by
  induction h generalizing A' W' with
  | stop h =>
    intro k
    cases k with
    | stop _ => exact ⟨rfl, rfl⟩
    | one hj _ => exact absurd h (go_stop hj)
    | off hj _ _ => exact absurd h (go_stop hj)
  | @one c z u M hj hp =>
    intro k
    generalize hE : c :: (M ++ [z]) = E at k
    cases k with
    | stop h => rw [← hE] at h; exact absurd h (go_stop hj)
    | @one c' z' u' M' hj' hp' =>
      obtain ⟨rfl, rfl, rfl⟩ := ends_eq2 hE
      rw [hp] at hp'
      cases hp'
      exact ⟨rfl, rfl⟩
    | @off c' z' M' _ _ hj' hp' _ =>
      obtain ⟨rfl, rfl, rfl⟩ := ends_eq2 hE
      rw [hp] at hp'
      cases hp'
  | @off c z M A W hj hp _ ih =>
    intro k
    generalize hE : c :: (M ++ [z]) = E at k
    cases k with
    | stop h => rw [← hE] at h; exact absurd h (go_stop hj)
    | @one c' z' u' M' hj' hp' =>
      obtain ⟨rfl, rfl, rfl⟩ := ends_eq2 hE
      rw [hp] at hp'
      cases hp'
    | @off c' z' M' _ _ hj' hp' k =>
      obtain ⟨rfl, rfl, rfl⟩ := ends_eq2 hE
      obtain ⟨e1, e2⟩ := ih k
      exact ⟨by rw [e1], e2⟩
structure UwI (sg : List Nat) (b e : Nat → Pl) (pr : Nat → Nat → Option Nat) (inv : Nat → Nat) (rs : List (Str × Str)) (E : List Nat) (low high z : Nat) : Prop where
  le : low ≤ high
  lt : high < E.length
  mem : z ∈ sg
  bz : ∀ y, E[high]? = some y → b z = b y
  eq : overP rs (E.take low ++ (mid E low high ++ [z]) ++ invT inv (E.take low)) = overP rs E
  tr : ∀ A' W', Uw b e pr (mid E low high ++ [z]) A' W' → Uw b e pr E (E.take low ++ A') W'
  st : E[high]? = some z ∨ ∀ c, low < high → E[low]? = some c → e z ≠ b c
theorem take_snoc {E : List Nat} {low c : Nat} (hc : E[low]? = some c) : E.take (low + 1) = E.take low ++ [c] := by rw [List.take_add_one, hc]; rfl
theorem UwI.nj {E : List Nat} {low high z : Nat} (I : UwI sg b e pr inv rs E low high z) (hn : NJ b e E) : NJ b e (mid E low high ++ [z]) := by
  refine nj_app.mpr ⟨nj_take (nj_drop hn low) _, trivial, fun x y hx hy => ?_⟩
  have hz : y = z := by simpa using hy.symm
  rw [hz]
  rw [List.getLast?_eq_getElem?, mid_len I.le (Nat.le_of_lt I.lt)] at hx
  have hlt : low < high := by
    rcases Nat.lt_or_ge low high with q | q
    · exact q
    · exfalso
      have : mid E low high = [] := by
        unfold mid
        rw [show high - low = 0 by omega, List.take_zero]
      rw [this] at hx
      cases hx
  rw [mid_at (by omega)] at hx
  have hlen := I.lt
  have hy2 : E[high]? = some E[high] := List.getElem?_eq_getElem I.lt
  rw [I.bz _ hy2]
  exact nj_at hn (i := high - 1) (by rw [← hx]; congr 1; omega) (by rw [← hy2]; congr 1; omega)
theorem UwI.start {E : List Nat} {z : Nat} (hz : E.getLast? = some z) (hm : ∀ c ∈ E, c ∈ sg) : UwI sg b e pr inv rs E 0 (E.length - 1) z := by
  have hz2 := hz
  rw [List.getLast?_eq_getElem?] at hz2
  have hl := (List.getElem?_eq_some_iff.mp hz2).1
  have hE : mid E 0 (E.length - 1) ++ [z] = E := by
    rw [← mid_snoc (Nat.zero_le _) hz2]
    unfold mid
    rw [List.drop_zero, show E.length - 1 + 1 - 0 = E.length by omega, List.take_length]
  refine ⟨Nat.zero_le _, hl, hm z (List.mem_of_getElem? hz2), fun y hy => by rw [hz2] at hy; cases hy; rfl, ?_, fun A' W' h => ?_, .inl hz2⟩
  · rw [hE]
    show overP rs ([] ++ E ++ []) = _
    rw [List.append_nil, List.nil_append]
  · rw [hE] at h
    exact h
theorem UwI.go1 (h : Gbk sg b e pr rs) (g : Gpd sg b e pr inv) {E : List Nat} {low high z c u : Nat} (hE : ∀ c ∈ E, c ∈ sg) (hn : NJ b e E) (I : UwI sg b e pr inv rs E low high z) (hlt : low < high) (hc : E[low]? = some c) (hj : e z = b c) (hp : pr z c = some u) : UwI sg b e pr inv rs E (low + 1) high u := by
  have hcs := hE c (List.mem_of_getElem? hc)
  obtain ⟨c1, c2, c3⟩ := g.cl z I.mem c hcs hj u hp
  obtain ⟨i1, i2, i3, i4, i5⟩ := g.iv c hcs
  have hst : ∀ c', low + 1 < high → E[low + 1]? = some c' → e u ≠ b c' := fun c' h1 hc' => by
    rw [c3]
    exact nj_at hn hc hc'
  refine ⟨hlt, I.lt, c1, fun y hy => by rw [c2]; exact I.bz y hy, ?_, fun A' W' hw => ?_, .inr hst⟩
  rotate_left
  · have h1 := I.tr [c] (mid E (low + 1) high ++ [u]) (by rw [mid_cons hlt hc]; exact Uw.one hj hp)
    have h2 : Uw b e pr (mid E (low + 1) high ++ [u]) [] (mid E (low + 1) high ++ [u]) := Uw.stop (by
      rcases Nat.lt_or_ge (low + 1) high with q | q
      · right
        obtain ⟨c', hc'⟩ : ∃ c', E[low + 1]? = some c' := ⟨_, List.getElem?_eq_getElem (by have := I.lt; omega)⟩
        intro x y hx hy
        rw [mid_cons q hc'] at hx hy
        rw [List.getLast?_append] at hx
        simp at hx hy
        rw [← hx, ← hy]
        exact hst c' q hc'
      · left
        rw [List.length_append, mid_len hlt (Nat.le_of_lt I.lt)]
        simp; omega)
    obtain ⟨rfl, rfl⟩ := h2.det hw
    rw [take_snoc hc, List.append_nil]
    exact h1
  rw [← I.eq, take_snoc hc, invT_app, mid_cons hlt hc]
  have o1 : overP rs [u] = overP rs [z, c] := by rw [h.over1 (by simp), h.over2 I.mem hcs hj, hp]; rfl
  have e1 : E.take low ++ [c] ++ (mid E (low + 1) high ++ [u]) ++ (invT inv [c] ++ invT inv (E.take low)) = (E.take low ++ [c] ++ mid E (low + 1) high) ++ [u] ++ (invT inv [c] ++ invT inv (E.take low)) := by simp
  rw [e1, h.cong g _ _ o1]
  have e2 : E.take low ++ [c] ++ mid E (low + 1) high ++ [z, c] ++ (invT inv [c] ++ invT inv (E.take low)) = (E.take low ++ [c] ++ mid E (low + 1) high ++ [z]) ++ [c, inv c] ++ invT inv (E.take low) := by
    unfold invT
    simp
  rw [e2, h.out g _ _ (u := [c, inv c]) (by rw [h.over2 hcs i1 i2.symm, i4]; rfl)]
  congr 1
  simp
theorem UwI.go0 (h : Gbk sg b e pr rs) (g : Gpd sg b e pr inv) {E : List Nat} {low high z c : Nat} (hE : ∀ c ∈ E, c ∈ sg) (hn : NJ b e E) (I : UwI sg b e pr inv rs E low high z) (hlt : low < high) (hc : E[low]? = some c) (hj : e z = b c) (hp : pr z c = none) : low + 1 < high ∧ ∀ y, E[high - 1]? = some y → UwI sg b e pr inv rs E (low + 1) (high - 1) y := by
  have hcs := hE c (List.mem_of_getElem? hc)
  have hcz := g.iu z I.mem c hcs hj hp
  obtain ⟨i1, i2, i3, i4, i5⟩ := g.iv z I.mem
  have hlh : low + 1 < high := by
    rcases Nat.lt_or_ge (low + 1) high with q | q
    · exact q
    · exfalso
      have hlen := I.lt
      have hh : high = low + 1 := by omega
      have hy2 : E[high]? = some E[high] := List.getElem?_eq_getElem I.lt
      generalize E[high] = y0 at hy2
      rw [hh] at hy2
      refine nj_at hn hc hy2 ?_
      rw [hcz, i3]
      exact I.bz _ (by rw [hh]; exact hy2)
  refine ⟨hlh, fun y hy => ⟨by omega, by have := I.lt; omega, hE y (List.mem_of_getElem? hy), fun y' hy' => by rw [hy] at hy'; cases hy'; rfl, ?_, fun A' W' hw => ?_, .inl hy⟩⟩
  rotate_left
  · have e1 : mid E (low + 1) (high - 1) ++ [y] = mid E (low + 1) high := by
      rw [← mid_snoc (by omega) hy, show high - 1 + 1 = high by omega]
    rw [e1] at hw
    have h1 := I.tr (c :: A') W' (by rw [mid_cons hlt hc]; exact Uw.off hj hp hw)
    rw [take_snoc hc, List.append_assoc]
    exact h1
  rw [← I.eq, take_snoc hc, invT_app, mid_cons hlt hc]
  have e1 : mid E (low + 1) (high - 1) ++ [y] = mid E (low + 1) high := by
    rw [← mid_snoc (by omega) hy, show high - 1 + 1 = high by omega]
  rw [e1]
  congr 1
  have e2 : invT inv [c] = [z] := by
    unfold invT
    rw [hcz]
    simp [g.inv_inv I.mem]
  rw [e2]
  simp
/-- a text unwrapped: what stands ahead, and the core -/
structure Unw (sg : List Nat) (b e : Nat → Pl) (pr : Nat → Nat → Option Nat) (inv : Nat → Nat) (rs : List (Str × Str)) (E A W : List Nat) : Prop where
  mA : ∀ c ∈ A, c ∈ sg
  mW : ∀ c ∈ W, c ∈ sg
  nj : NJ b e W
  eq : overP rs (A ++ W ++ invT inv A) = overP rs E
  fin : W.length ≤ 1 ∨ ∀ x y, W.getLast? = some x → W.head? = some y → e x ≠ b y
  le : A.length + W.length ≤ E.length
  uw : Uw b e pr E A W
theorem Unw.nil : Unw sg b e pr inv rs [] [] [] := ⟨(fun _ h => nomatch h), (fun _ h => nomatch h), trivial, rfl, .inl (by simp), by simp, Uw.stop (.inl (by simp))⟩
theorem UwI.done {E : List Nat} {low high z : Nat} (I : UwI sg b e pr inv rs E low high z) (hE : ∀ c ∈ E, c ∈ sg) (hn : NJ b e E) (hf : high ≤ low ∨ ∀ c, E[low]? = some c → e z ≠ b c) : Unw sg b e pr inv rs E (E.take low) (mid E low high ++ [z]) := by
  have hl1 := I.le
  have hl2 := I.lt
  have hfin : (mid E low high ++ [z]).length ≤ 1 ∨ ∀ x y, (mid E low high ++ [z]).getLast? = some x → (mid E low high ++ [z]).head? = some y → e x ≠ b y := by
    rcases Nat.lt_or_ge low high with q | q
    · right
      rcases hf with f | f
      · omega
      · have ec : E[low]? = some E[low] := List.getElem?_eq_getElem (by omega)
        intro x y hx hy
        rw [mid_cons q ec] at hx hy
        rw [List.getLast?_append] at hx
        simp at hx hy
        rw [← hx, ← hy]
        exact f _ ec
    · left
      rw [List.length_append, mid_len I.le (Nat.le_of_lt I.lt)]
      simp; omega
  refine ⟨fun c hc => hE c (List.mem_of_mem_take hc), fun c hc => ?_, I.nj hn, I.eq, hfin, ?_, by
    have := I.tr [] _ (Uw.stop hfin)
    rwa [List.append_nil] at this⟩
  · rcases List.mem_append.mp hc with q | q
    · exact hE c (mid_mem q)
    · rw [List.mem_singleton.mp q]; exact I.mem
  · rw [List.length_append, List.length_take, mid_len I.le (Nat.le_of_lt I.lt)]
    simp; omega
theorem Unw.pz {E A W : List Nat} (u : Unw sg b e pr inv rs E A W) (h : Gbk sg b e pr rs) (g : Gpd sg b e pr inv) (n : Nat) : Bk.pz rs E n ↔ Bk.pz rs W n := by
  rw [← h.pz_over g u.eq n, h.pz_conj g u.mA]
end
end Bk
set_option Elab.async false
set_option linter.all false
set_option maxRecDepth 100000
set_option maxHeartbeats 4000000
namespace Bk
open PySem PySem.Spec PyProof.Rows L2
/-! z[::-1], z a text -/
theorem range_rev (n : Nat) : sliceRange ((n : Int) - 1) (-1) (-1) = (List.range n).map fun m : Nat => ((n : Int) - 1 + (m : Int) * (-1)).toNat := by
  unfold sliceRange
  rw [if_neg (by decide)]
  have e : (if (n : Int) - 1 > -1 then ((n : Int) - 1 - -1 - -1 - 1) / (- -1) else 0).toNat = n := by
    by_cases h : n = 0
    · subst h; decide
    · rw [if_pos (by omega), show (- -1 : Int) = 1 by decide, Int.ediv_one]; omega
  show (List.range (if (n : Int) - 1 > -1 then ((n : Int) - 1 - -1 - -1 - 1) / (- -1) else 0).toNat).map _ = _
  rw [e]
  exact List.map_congr_left fun m _ => by rw [Int.mul_comm]
theorem pick_revS (xs : Array Nat) : ((List.range xs.size).filterMap fun (m : Nat) => xs[((xs.size : Int) - 1 + (m : Int) * (-1)).toNat]?) = xs.toList.reverse := by
  have hz : xs.size = xs.toList.reverse.length := by simp
  have h : ∀ (l : List Nat), (∀ m ∈ l, m < xs.size) → l.filterMap (fun (m : Nat) => xs[((xs.size : Int) - 1 + (m : Int) * (-1)).toNat]?) = l.filterMap (fun m => xs.toList.reverse[m]?) := by
    intro l hl
    induction l with
    | nil => rfl
    | cons m l ih =>
      have hm' := hl m List.mem_cons_self
      have e : ((xs.size : Int) - 1 + (m : Int) * (-1)).toNat = xs.size - 1 - m := by omega
      rw [List.filterMap_cons, List.filterMap_cons, ih fun k hk => hl k (List.mem_cons_of_mem _ hk), e, List.getElem?_reverse (by simpa using hm')]
      simp
  rw [h _ fun m hm => List.mem_range.mp hm, hz]
  generalize xs.toList.reverse = ys
  have e : ∀ n, n ≤ ys.length → (List.range n).filterMap (fun m => ys[m]?) = ys.take n := by
    intro n
    induction n with
    | zero => intro _; simp
    | succ n ih =>
      intro hn
      rw [List.range_succ, List.filterMap_append, ih (by omega), List.take_add_one, List.filterMap_cons]
      rw [List.getElem?_eq_getElem (show n < ys.length by omega)]
      rfl
  rw [e _ (Nat.le_refl _), List.take_length]
def tRevS (te : TE) : TE := fun σ H Q => te σ H fun x H1 => ∃ z : Str, x = .str z ∧ z.length ≤ sizeLine ∧ Q (.str (mkS (cl z).reverse)) H1
theorem pe_revS {X : Cx} {e : Expr} {te : TE} {k : Nat} {p1 p2 p3 pos : Pos} (he : PE X e te) : PE X (.Subscript e (.Slice none none (some (.UnaryOp .USub (.Constant (.int 1) k p1) p2)) p3) pos) (tRevS te) := by
  have part : PO X (some (.UnaryOp .USub (.Constant (.int 1) k p1) p2)) (tPart (tUn (rU fun i => .int (-i)) (tC (.int 1)))) := po_some (pe_un un_neg pe_int)
  have nothing : ∀ {pins σ s H}, Inv X pins σ H s → wpAny (model X.prog X.w) X.A (evalPart none X.env) (fun u s' => IsPart u none ∧ Inv X pins σ H s') X.xe s := fun {pins σ s H} I =>
    thn (po_none.run pins s σ H (fun o H2 => o = none ∧ H2 = H) I ⟨rfl, rfl⟩) fun _ _ ⟨_, _, J, p, a, b⟩ => by subst a b; exact ⟨p, J⟩
  refine ⟨fun pins s σ H Q I h => Subscript_ (thn (he.run pins s σ H _ I h) fun v s1 ⟨x, H1, I1, r1, z, ex, hz, q⟩ => ?_)⟩
  subst ex
  obtain ⟨tk, rfl⟩ := r1
  refine wpAny_Slice (thn (nothing I1) fun vl s2 ⟨pl, I2⟩ => thn (nothing I2) fun vu s3 ⟨pu, I3⟩ => thn (part.run pins s3 σ H1 (fun o H4 => o = some (-1) ∧ H4 = H1) I3 ⟨1, rfl, -1, rfl, rfl, rfl⟩) fun vs s4 ⟨o, H4, I4, ps, eo, e4⟩ => ?_)
  subst eo e4
  cases pl
  cases pu
  cases ps with
  | int i4 t4 =>
  have I5 := I4.kept (h' := s4.heap.push { cls := .type "slice", data := .fields #[.none, .none, .int (-1) t4] }) (t' := s4.toks) fun _ _ => Heap.get?_push_of_some _
  refine (show wpAny (model X.prog X.w) X.A (subscriptTail e (.Slice none none (some (.UnaryOp .USub (.Constant (.int 1) k p1) p2)) p3) (.str z tk) (.ref s4.heap.objs.size)) (EP X pins σ Q) X.xe { s4 with heap := s4.heap.push { cls := .type "slice", data := .fields #[.none, .none, .int (-1) t4] } } from
    tail_any (ops := [.str z tk, .ref s4.heap.objs.size]) (typeIs_str _ _ _) F.slot_str_getitem.lookup (wpAny_getItem_str_slice (l := none) (u := none) (st := some (-1, t4)) ⟨_, Heap.get?_push_size _ rfl, rfl, rfl⟩ rfl ?_) (by with_unfolding_all rfl))
  have e1 : ((slicePicked z none none (some (-1, t4))).filterMap (z.cps[·]?)).toArray = (cl z).reverse.toArray := by
    congr 1
    show (sliceRange ((z.length : Nat) - 1 : Int) (-1) (-1)).filterMap _ = _
    rw [range_rev, List.filterMap_map]
    exact pick_revS z.cps
  show (if (((-1 : Int) == 1 && (slicePicked z none none (some (-1, t4))).length == z.length) = true) then Made.val (.str z tk) else Made.str ⟨((slicePicked z none none (some (-1, t4))).filterMap (z.cps[·]?)).toArray⟩).post (EP X pins σ Q) _
  rw [e1]
  refine post_val_or_str ⟨?_, fun t' kk => ?_⟩
  · rw [if_neg (by simp)]
    show (mkS (cl z).reverse).length ≤ _
    rw [len_mk, List.length_reverse, len_cl]
    exact hz
  · rw [if_neg (by simp)]
    exact ⟨.str (mkS (cl z).reverse), _, I5.kept (fun _ _ e => e), ⟨_, rfl⟩, q⟩
theorem revS {te : TE} {σ : L2.St} {H : Hp} {Q : VK} (h : te σ H fun x H1 => ∃ z : Str, x = .str z ∧ z.length ≤ sizeLine ∧ Q (.str (mkS (cl z).reverse)) H1) : tRevS te σ H Q := h
/-! a text so many times -/
theorem rep_fold (x : Array Nat) : ∀ (n : Nat) (acc : Array Nat), ((List.replicate n x).foldl (· ++ ·) acc).toList = acc.toList ++ powT x.toList n
  | 0, acc => by simp [powT]
  | n + 1, acc => by
    rw [List.replicate_succ, List.foldl_cons, rep_fold x n, Array.toList_append, List.append_assoc, powT_comm]
    rfl
theorem mulT_cl (z : Str) (n : Nat) : cl (Txt.mul z (n : Int)) = powT (cl z) n := by
  unfold Txt.mul
  by_cases h0 : (n : Int) < 1
  · rw [if_pos h0, show n = 0 by omega]; rfl
  · rw [if_neg h0]
    split
    · rename_i h1
      rw [Bool.or_eq_true, beq_iff_eq, beq_iff_eq] at h1
      rcases h1 with h1 | h1
      · rw [show n = 1 by omega, powT_one]
      · have : cl z = [] := List.length_eq_zero_iff.mp ((len_cl z).trans h1)
        rw [this]
        exact (List.eq_nil_iff_forall_not_mem.mpr fun c hc => nomatch (powT_mem hc : c ∈ [])).symm
    · show ((List.replicate n z.cps).foldl (· ++ ·) #[]).toList = _
      rw [rep_fold]
      rfl
theorem powT_len (w : List Nat) : ∀ n, (powT w n).length = n * w.length
  | 0 => by simp [powT]
  | n + 1 => by
    show (powT w n ++ w).length = _
    rw [List.length_append, powT_len w n, Nat.succ_mul]
theorem mulT_ok {z : Str} {n : Nat} (hz : z.length ≤ 100) (hn : n ≤ 100) : MulOk z (n : Int) := by
  refine ⟨by simp; omega, fun h0 _ => ?_, fun _ _ => ?_⟩
  · have h1 : (z.length : Int) ≤ (2 ^ 63 - 1) / (n : Int) := by
      rw [Int.le_ediv_iff_mul_le (by omega)]
      have : (z.length : Int) * (n : Int) ≤ 100 * 100 := by
        have := Nat.mul_le_mul hz hn
        exact_mod_cast this
      omega
    omega
  · have : z.length * n ≤ 100 * 100 := Nat.mul_le_mul hz hn
    unfold Builtin.Str.tooLong
    rw [decide_eq_false_iff_not, sizeLine_eq]
    rw [Int.toNat_natCast]
    omega
end Bk
set_option Elab.async false
set_option linter.all false
set_option maxRecDepth 100000
namespace Bk
open PySem PySem.Spec PyProof.Rows L2
open Cf (Step Star Nf)
/-! texts that are rows of a shorter one -/
theorem powT_mul (w : List Nat) (a : Nat) : ∀ b, powT (powT w a) b = powT w (a * b)
  | 0 => by simp [powT]
  | b + 1 => by
    show powT (powT w a) b ++ powT w a = _
    rw [powT_mul w a b, ← powT_add, Nat.mul_succ]
theorem comm_pow : ∀ (n : Nat) (p v : List Nat), p.length + v.length ≤ n → p ++ v = v ++ p → ∃ t a b, p = powT t a ∧ v = powT t b
  | 0, p, v, hl, _ => by
    have h1 : p = [] := List.length_eq_zero_iff.mp (by omega)
    have h2 : v = [] := List.length_eq_zero_iff.mp (by omega)
    exact ⟨[], 0, 0, h1, h2⟩
  | n + 1, p, v, hl, h => by
    cases p with
    | nil => exact ⟨v, 0, 1, rfl, (powT_one v).symm⟩
    | cons c p =>
      cases v with
      | nil => exact ⟨c :: p, 1, 0, (powT_one _).symm, rfl⟩
      | cons d v =>
        rcases Nat.le_total (c :: p).length (d :: v).length with hle | hle
        · have hpre : (c :: p) <+: (d :: v) := by
            have h1 : (c :: p) <+: (d :: v) ++ (c :: p) := ⟨d :: v, h⟩
            exact List.prefix_of_prefix_length_le h1 (List.prefix_append _ _) hle
          obtain ⟨v', hv⟩ := hpre
          rw [← hv, List.append_assoc] at h
          have h2 := List.append_cancel_left h
          obtain ⟨t, a, b, e1, e2⟩ := comm_pow n (c :: p) v' (by
            have := congrArg List.length hv
            simp at this hl ⊢
            omega) h2
          refine ⟨t, a, a + b, e1, ?_⟩
          rw [← hv, powT_add, ← e1, ← e2]
        · have hpre : (d :: v) <+: (c :: p) := by
            have h1 : (d :: v) <+: (c :: p) ++ (d :: v) := ⟨c :: p, h.symm⟩
            exact List.prefix_of_prefix_length_le h1 (List.prefix_append _ _) hle
          obtain ⟨p', hp⟩ := hpre
          rw [← hp, List.append_assoc] at h
          have h2 := List.append_cancel_left h
          obtain ⟨t, a, b, e1, e2⟩ := comm_pow n p' (d :: v) (by
            have := congrArg List.length hp
            simp at this hl ⊢
            omega) h2
          refine ⟨t, b + a, b, ?_, e2⟩
          rw [← hp, powT_add, ← e1, ← e2]
/-- a text is the same read from a place on -/
def Rot (W : List Nat) (i : Nat) : Prop := W.drop i ++ W.take i = W
instance {W : List Nat} {i : Nat} : Decidable (Rot W i) := by unfold Rot; infer_instance
/-- a text is a row of its first signs -/
def Row (W : List Nat) (s : Nat) : Prop := powT (W.take s) (W.length / s) = W
instance {W : List Nat} {i : Nat} : Decidable (Row W i) := by unfold Row; infer_instance
theorem row_of {q : List Nat} {k : Nat} (hq : 0 < q.length) (hk : 0 < k) : Row (powT q k) q.length := by
  unfold Row
  have e1 : (powT q k).take q.length = q := by
    obtain ⟨j, rfl⟩ : ∃ j, k = 1 + j := ⟨k - 1, by omega⟩
    rw [powT_add, powT_one, List.take_left']
    rfl
  rw [e1, powT_len, Nat.mul_div_cancel _ hq]
theorem row_rot {W : List Nat} {s : Nat} (hs : 0 < s) (hl : s ≤ W.length) (h : Row W s) : Rot W s := by
  unfold Row at h
  have hk : 0 < W.length / s := Nat.div_pos hl hs
  obtain ⟨j, hj⟩ : ∃ j, W.length / s = 1 + j := ⟨W.length / s - 1, by omega⟩
  rw [hj, powT_add, powT_one] at h
  unfold Rot
  have e1 : W.drop s = powT (W.take s) j := by
    have := congrArg (List.drop s) h
    rw [List.drop_left' (by rw [List.length_take]; omega)] at this
    exact this.symm
  rw [e1, ← powT_comm]
  exact h
/-- the least place from which a text is the same is the length of a piece of which it is a row -/
theorem rot_row {W : List Nat} {i : Nat} (h0 : 0 < i) (hl : i ≤ W.length) (h : Rot W i) (hm : ∀ j, 0 < j → j < i → ¬ Rot W j) : Row W i ∧ i * (W.length / i) = W.length := by
  have hc : W.take i ++ W.drop i = W.drop i ++ W.take i := by rw [List.take_append_drop]; exact h.symm
  obtain ⟨t, a, b, e1, e2⟩ := comm_pow _ _ _ (Nat.le_refl _) hc
  have hW : W = powT t (a + b) := by rw [powT_add, ← e1, ← e2, List.take_append_drop]
  have hta : a * t.length = i := by
    rw [← powT_len, ← e1, List.length_take]; omega
  have ha : a ≠ 0 := fun e => by rw [e, Nat.zero_mul] at hta; omega
  have ht : 0 < t.length := by
    rcases Nat.eq_zero_or_pos t.length with z | z
    · rw [z, Nat.mul_zero] at hta; omega
    · exact z
  have hr : Row W t.length := by rw [hW]; exact row_of ht (by omega)
  have htl : t.length ≤ i := by
    rw [← hta]
    exact Nat.le_mul_of_pos_left _ (by omega)
  have hi : t.length = i := by
    rcases Nat.lt_or_ge t.length i with z | z
    · exact absurd (row_rot ht (by omega) hr) (hm _ ht z)
    · omega
  have hWl : W.length = (a + b) * i := by rw [hW, powT_len, hi]
  rw [← hi]
  refine ⟨hr, ?_⟩
  rw [hi, hWl, Nat.mul_div_cancel _ h0, Nat.mul_comm]
/-- the length of the shortest piece -/
def pieceN (W : List Nat) : Nat := ((List.range W.length).find? fun k => decide (Rot W (k + 1))).elim W.length (· + 1)
theorem rot_all (W : List Nat) : Rot W W.length := by
  unfold Rot
  rw [List.drop_length, List.take_length, List.nil_append]
theorem pieceN_ok {W : List Nat} (h : W ≠ []) : 0 < pieceN W ∧ pieceN W ≤ W.length ∧ Rot W (pieceN W) ∧ ∀ j, 0 < j → j < pieceN W → ¬ Rot W j := by
  have hl : 0 < W.length := List.length_pos_iff.mpr h
  unfold pieceN
  cases hf : (List.range W.length).find? fun k => decide (Rot W (k + 1)) with
  | none =>
    rw [List.find?_eq_none] at hf
    exact absurd (decide_eq_true (by rw [show W.length - 1 + 1 = W.length by omega]; exact rot_all W)) (hf (W.length - 1) (List.mem_range.mpr (by omega)))
  | some k =>
    rw [List.find?_range_eq_some] at hf
    obtain ⟨h1, h2, h3⟩ := hf
    rw [List.mem_range] at h2
    refine ⟨Nat.succ_pos k, h2, of_decide_eq_true h1, fun j j0 j1 => ?_⟩
    have j1 : j < k + 1 := j1
    have := h3 (j - 1) (by omega)
    rw [Bool.not_eq_true', decide_eq_false_iff_not, show j - 1 + 1 = j by omega] at this
    exact this
def piece (W : List Nat) : List Nat := W.take (pieceN W)
def times (W : List Nat) : Nat := W.length / pieceN W
theorem piece_ok {W : List Nat} (h : W ≠ []) : powT (piece W) (times W) = W ∧ pieceN W * times W = W.length ∧ (piece W).length = pieceN W ∧ 0 < times W := by
  obtain ⟨p0, p1, p2, p3⟩ := pieceN_ok h
  obtain ⟨h1, h2⟩ := rot_row p0 p1 p2 p3
  refine ⟨h1, h2, ?_, Nat.div_pos p1 p0⟩
  unfold piece
  rw [List.length_take]
  omega
/-- of all rows that a text is, its shortest piece stands in it most often -/
theorem times_max {W q : List Nat} {n : Nat} (h : W ≠ []) (hq : W = powT q n) : 0 < n ∧ n ≤ times W ∧ (n = times W → q = piece W) := by
  have hn : 0 < n := by
    rcases Nat.eq_zero_or_pos n with z | z
    · rw [z] at hq; exact absurd hq h
    · exact z
  have hl : W.length = n * q.length := by rw [hq, powT_len]
  have hWl : 0 < W.length := List.length_pos_iff.mpr h
  have hql : 0 < q.length := by
    rcases Nat.eq_zero_or_pos q.length with z | z
    · rw [z, Nat.mul_zero] at hl; omega
    · exact z
  have hr : Rot W q.length := by
    refine row_rot hql ?_ (by rw [hq]; exact row_of hql hn)
    rw [hl]
    exact Nat.le_mul_of_pos_left _ hn
  obtain ⟨p0, p1, p2, p3⟩ := pieceN_ok h
  obtain ⟨w1, w2, w3, w4⟩ := piece_ok h
  have hle : pieceN W ≤ q.length := by
    rcases Nat.lt_or_ge q.length (pieceN W) with z | z
    · exact absurd hr (p3 _ hql z)
    · exact z
  refine ⟨hn, ?_, fun e => ?_⟩
  · unfold times
    rw [Nat.le_div_iff_mul_le p0, hl]
    exact Nat.mul_le_mul_left _ hle
  · have hqp : q.length = pieceN W := by
      have : times W * q.length = times W * pieceN W := by rw [← e, ← hl, e, Nat.mul_comm]; exact w2.symm
      exact Nat.eq_of_mul_eq_mul_left w4 this
    unfold piece
    rw [← hqp, hq]
    obtain ⟨j, rfl⟩ : ∃ j, n = 1 + j := ⟨n - 1, by omega⟩
    rw [powT_add, powT_one, List.take_left']
    rfl
/-- of the pieces found by rows, the shortest is the same -/
theorem row_uni {W : List Nat} {s : Nat} (h0 : 0 < s) (hl : s ≤ W.length) (h : Row W s) (hm : ∀ j, 0 < j → j < s → ¬ Row W j) : s = pieceN W := by
  have hne : W ≠ [] := fun e => by rw [e] at hl; simp at hl; omega
  obtain ⟨p0, p1, p2, p3⟩ := pieceN_ok hne
  rcases Nat.lt_trichotomy s (pieceN W) with z | z | z
  · exact absurd (row_rot h0 hl h) (p3 _ h0 z)
  · exact z
  · exact absurd (rot_row p0 p1 p2 p3).1 (hm _ p0 z)
/-- the last sign put ahead -/
theorem turn_pow {q : List Nat} {u : Nat} : ∀ k, [u] ++ powT (q ++ [u]) k = powT ([u] ++ q) k ++ [u]
  | 0 => rfl
  | k + 1 => by
    show [u] ++ (powT (q ++ [u]) k ++ (q ++ [u])) = powT ([u] ++ q) k ++ ([u] ++ q) ++ [u]
    rw [← List.append_assoc, turn_pow k]
    simp
theorem times_turn {M : List Nat} {u : Nat} : times ([u] ++ M) = times (M ++ [u]) := by
  have key : ∀ (M : List Nat) (q : List Nat) (k : Nat), M ++ [u] = powT q k → [u] ++ M = powT ([u] ++ q.dropLast) k := fun M q k e => by
    cases k with
    | zero =>
      have := congrArg List.length e
      simp [powT] at this
    | succ k =>
      have e' : M ++ [u] = powT q k ++ q := e
      have hq : q ≠ [] := fun z => by
        rw [z, List.append_nil] at e'
        have h1 := congrArg List.length e'
        rw [powT_len] at h1
        simp at h1
      have hl : q.getLast hq = u := by
        have h1 := congrArg List.getLast? e'
        rw [List.getLast?_append, List.getLast?_append] at h1
        simp [List.getLast?_eq_some_getLast hq] at h1
        exact h1.symm
      have hqq : q = q.dropLast ++ [u] := by rw [← hl]; exact (List.dropLast_concat_getLast hq).symm
      have h2 : M ++ [u] = powT (q.dropLast ++ [u]) (k + 1) := by rw [← hqq]; exact e
      have h3 := turn_pow (q := q.dropLast) (u := u) (k + 1)
      rw [← h2, ← List.append_assoc] at h3
      exact List.append_cancel_right h3
  have key2 : ∀ (M : List Nat) (q : List Nat) (k : Nat), [u] ++ M = powT q k → ∃ q', M ++ [u] = powT q' k := fun M q k e => by
    cases k with
    | zero =>
      have := congrArg List.length e
      simp [powT] at this
    | succ k =>
      have e' : [u] ++ M = q ++ powT q k := by rw [powT_comm]; exact e
      have hq : q ≠ [] := fun z => by
        rw [z, List.nil_append] at e'
        have h1 := congrArg List.length e'
        rw [powT_len] at h1
        simp at h1
      obtain ⟨c, q', rfl⟩ := List.exists_cons_of_ne_nil hq
      have hc : c = u := by
        have := congrArg List.head? e'
        simp at this
        exact this.symm
      subst hc
      refine ⟨q' ++ [c], ?_⟩
      have h3 := turn_pow (q := q') (u := c) (k + 1)
      have h4 : [c] ++ M = powT ([c] ++ q') (k + 1) := e
      rw [← h4, List.append_assoc] at h3
      exact (List.append_cancel_left h3).symm
  have n1 : [u] ++ M ≠ [] := by simp
  have n2 : M ++ [u] ≠ [] := by simp
  obtain ⟨a1, _, _, _⟩ := piece_ok n1
  obtain ⟨b1, _, _, _⟩ := piece_ok n2
  obtain ⟨q', hq'⟩ := key2 M _ _ a1.symm
  have h1 := (times_max n2 hq').2.1
  have h2 := (times_max n1 (key M _ _ b1.symm)).2.1
  omega
/-! all ends up to a length, of up to eight signs -/
theorem levs_len8 {rs : List (Str × Str)} {sg : List Nat} (h : sg.length ≤ 8) : ∀ k, (levs rs sg k).length ≤ 8 ^ k
  | 0 => by simp [levs]
  | k + 1 => by
    show (longer rs sg (levs rs sg k)).length ≤ 8 ^ k * 8
    refine Nat.le_trans (flat_len (c := 8) _ fun t _ => Nat.le_trans longerOf_len h) ?_
    exact Nat.mul_le_mul_right 8 (levs_len8 h k)
theorem pow8_le {k : Nat} (h : k ≤ 3) : 8 ^ k ≤ 512 := Nat.pow_le_pow_right (by decide) h
theorem pow8_le2 {k : Nat} (h : k ≤ 2) : 8 ^ k ≤ 64 := Nat.pow_le_pow_right (by decide) h
theorem endsUp_len8 {rs : List (Str × Str)} {sg : List Nat} (h : sg.length ≤ 8) {n : Nat} (hn : n ≤ 3) : (endsUp rs sg n).length ≤ 2048 := by
  refine Nat.le_trans (flat_len (c := 512) _ fun k hk => Nat.le_trans (levs_len8 h k) (pow8_le (by have := List.mem_range.mp hk; omega))) ?_
  rw [List.length_range]; omega
end Bk
set_option Elab.async false
set_option linter.all false
set_option maxRecDepth 100000
namespace Bk
open PySem PySem.Spec PyProof.Rows L2
open Cf (Step Star Nf)
/-! roots in groupoids -/
section
variable {Pl : Type} [DecidableEq Pl] {sg : List Nat} {b e : Nat → Pl} {pr : Nat → Nat → Option Nat} {inv : Nat → Nat} {rs : List (Str × Str)}
/-- every text can be unwrapped -/
theorem uw_all (b e : Nat → Pl) (pr : Nat → Nat → Option Nat) : ∀ (n : Nat) (E : List Nat), E.length ≤ n → ∃ A W, Uw b e pr E A W
  | 0, E, h => ⟨[], E, Uw.stop (.inl (by omega))⟩
  | n + 1, E, h => by
    by_cases h1 : E.length ≤ 1
    · exact ⟨[], E, Uw.stop (.inl h1)⟩
    · obtain ⟨c, E', rfl⟩ := List.exists_cons_of_ne_nil (l := E) fun q => by rw [q] at h1; simp at h1
      have hE' : E' ≠ [] := fun q => by rw [q] at h1; simp at h1
      have e1 : E' = E'.dropLast ++ [E'.getLast hE'] := (List.dropLast_concat_getLast hE').symm
      generalize E'.dropLast = M at e1
      generalize E'.getLast hE' = z at e1
      subst e1
      by_cases hj : e z = b c
      · cases hp : pr z c with
        | some u => exact ⟨_, _, Uw.one hj hp⟩
        | none =>
          obtain ⟨A, W, k⟩ := uw_all b e pr n M (by simp at h; omega)
          exact ⟨_, _, Uw.off hj hp k⟩
      · refine ⟨[], _, Uw.stop (.inr fun x y hx hy => ?_)⟩
        rw [show c :: (M ++ [z]) = (c :: M) ++ [z] from rfl, List.getLast?_append] at hx
        simp at hx hy
        rw [← hx, ← hy]
        exact hj
/-- how an end that is unwrapped looks -/
theorem Gpd.uw_form (g : Gpd sg b e pr inv) {E A W : List Nat} (h : Uw b e pr E A W) (hE : ∀ c ∈ E, c ∈ sg) : (∀ c ∈ A, c ∈ sg) ∧ (∀ c ∈ W, c ∈ sg) ∧ (E = A ++ W ++ invT inv A ∨ ∃ A0 c M z u, A = A0 ++ [c] ∧ W = M ++ [u] ∧ E = A0 ++ (c :: (M ++ [z])) ++ invT inv A0 ∧ e z = b c ∧ pr z c = some u) := by
  induction h with
  | @stop E _ =>
    refine ⟨fun c h => (nomatch h), hE, .inl ?_⟩
    show E = [] ++ E ++ []
    simp
  | @one c z u M hj hp =>
    have hc := hE c List.mem_cons_self
    have hz := hE z (by simp)
    obtain ⟨c1, _, _⟩ := g.cl z hz c hc hj u hp
    refine ⟨fun d hd => by rw [List.mem_singleton.mp hd]; exact hc, fun d hd => ?_, .inr ⟨[], c, M, z, u, rfl, rfl, ?_, hj, hp⟩⟩
    · rcases List.mem_append.mp hd with q | q
      · exact hE d (by simp [q])
      · rw [List.mem_singleton.mp q]; exact c1
    · show c :: (M ++ [z]) = [] ++ (c :: (M ++ [z])) ++ []
      simp
  | @off c z M A W hj hp _ ih =>
    have hc := hE c List.mem_cons_self
    have hz := hE z (by simp)
    have hcz := g.iu z hz c hc hj hp
    have hzc : z = inv c := by rw [hcz, g.inv_inv hz]
    obtain ⟨h1, h2, h3⟩ := ih fun d hd => hE d (by simp [hd])
    refine ⟨fun d hd => ?_, h2, ?_⟩
    · rcases List.mem_cons.mp hd with q | q
      · rw [q]; exact hc
      · exact h1 d q
    · have hi : ∀ A : List Nat, invT inv (c :: A) = invT inv A ++ [z] := fun A => by
        rw [hzc]
        unfold invT
        simp
      rcases h3 with h3 | ⟨A0, c', M', z', u, rfl, rfl, h3, q1, q2⟩
      · left
        rw [h3, hi]
        simp
      · right
        refine ⟨c :: A0, c', M', z', u, rfl, rfl, ?_, q1, q2⟩
        rw [h3, hi]
        simp
/-- and the other way -/
theorem Gpd.uw_of (g : Gpd sg b e pr inv) {N A' W' : List Nat} (h : Uw b e pr N A' W') : ∀ {A0 : List Nat}, (∀ c ∈ A0, c ∈ sg) → Uw b e pr (A0 ++ N ++ invT inv A0) (A0 ++ A') W'
  | [], _ => by
    show Uw b e pr ([] ++ N ++ []) ([] ++ A') W'
    simpa using h
  | c :: A0, hA => by
    have hc := hA c List.mem_cons_self
    obtain ⟨i1, i2, i3, i4, i5⟩ := g.iv c hc
    have ih := Gpd.uw_of g h (A0 := A0) fun d hd => hA d (List.mem_cons_of_mem _ hd)
    have e1 : c :: A0 ++ N ++ invT inv (c :: A0) = c :: ((A0 ++ N ++ invT inv A0) ++ [inv c]) := by
      unfold invT
      simp
    rw [e1]
    exact Uw.off i3 i5 ih
theorem Gbk.uw_over (h : Gbk sg b e pr rs) (g : Gpd sg b e pr inv) {E A W : List Nat} (k : Uw b e pr E A W) (hE : ∀ c ∈ E, c ∈ sg) : overP rs (A ++ W ++ invT inv A) = overP rs E := by
  obtain ⟨hA, hW, hf⟩ := g.uw_form k hE
  rcases hf with hf | ⟨A0, c, M, z, u, rfl, rfl, hf, hj, hp⟩
  · rw [← hf]
  · have hc := hA c (by simp)
    have hz := hE z (by rw [hf]; simp)
    obtain ⟨i1, i2, i3, i4, i5⟩ := g.iv c hc
    have o1 : overP rs [u] = overP rs [z, c] := by rw [h.over1 (by simp), h.over2 hz hc hj, hp]; rfl
    rw [invT_app]
    have e1 : A0 ++ [c] ++ (M ++ [u]) ++ (invT inv [c] ++ invT inv A0) = (A0 ++ [c] ++ M) ++ [u] ++ (invT inv [c] ++ invT inv A0) := by simp
    rw [e1, h.cong g _ _ o1]
    have e2 : A0 ++ [c] ++ M ++ [z, c] ++ (invT inv [c] ++ invT inv A0) = (A0 ++ [c] ++ M ++ [z]) ++ [c, inv c] ++ invT inv A0 := by
      unfold invT
      simp
    rw [e2, h.out g _ _ (u := [c, inv c]) (by rw [h.over2 hc i1 i2.symm, i4]; rfl), hf]
    congr 1
    simp
/-- neighbours, where only the text in the middle is another one -/
theorem nj_swap {x y u v : List Nat} (h : NJ b e (x ++ u ++ y)) (hv : NJ b e v) (hf : ∀ c d, v.head? = some c → u.head? = some d → b c = b d) (hl : ∀ c d, v.getLast? = some c → u.getLast? = some d → e c = e d) (hu : u ≠ []) (hv0 : v ≠ []) : NJ b e (x ++ v ++ y) := by
  obtain ⟨h1, h2, h3⟩ := nj_app.mp h
  obtain ⟨h4, h5, h6⟩ := nj_app.mp h1
  obtain ⟨d0, hd0⟩ : ∃ d, u.head? = some d := by
    cases u with
    | nil => exact absurd rfl hu
    | cons d u => exact ⟨d, rfl⟩
  have hl0 : ∃ d, u.getLast? = some d := ⟨_, List.getLast?_eq_some_getLast hu⟩
  obtain ⟨d1, hd1⟩ := hl0
  refine nj_app.mpr ⟨nj_app.mpr ⟨h4, hv, fun c d hc hd => ?_⟩, h2, fun c d hc hd => ?_⟩
  · rw [hf d d0 hd hd0]
    exact h6 c d0 hc hd0
  · rw [List.getLast?_append] at hc
    cases hv2 : v.getLast? with
    | some c' =>
      rw [hv2] at hc
      simp at hc
      subst hc
      rw [hl c' d1 hv2 hd1]
      exact h3 d1 d (by rw [List.getLast?_append, hd1]; rfl) hd
    | none => exact absurd (List.getLast?_eq_none_iff.mp hv2) hv0
theorem Gpd.uw_core (g : Gpd sg b e pr inv) {E A W : List Nat} (h : Uw b e pr E A W) (hE : ∀ c ∈ E, c ∈ sg) : NJ b e E → NJ b e W ∧ (W.length ≤ 1 ∨ ∀ x y, W.getLast? = some x → W.head? = some y → e x ≠ b y) := by
  induction h with
  | stop h => exact fun hn => ⟨hn, h⟩
  | @one c z u M hj hp =>
    intro hn
    obtain ⟨c1, c2, c3⟩ := g.cl z (hE z (by simp)) c (hE c List.mem_cons_self) hj u hp
    have hn' : NJ b e ([c] ++ (M ++ [z])) := hn
    obtain ⟨_, h2, h3⟩ := nj_app.mp hn'
    obtain ⟨h4, _, h5⟩ := nj_app.mp h2
    refine ⟨nj_app.mpr ⟨h4, trivial, fun x y hx hy => ?_⟩, ?_⟩
    · have : y = u := by simpa using hy.symm
      rw [this, c2]
      exact h5 x z hx rfl
    · cases M with
      | nil => left; simp
      | cons m M =>
        right
        intro x y hx hy
        rw [List.getLast?_append] at hx
        simp at hx hy
        rw [← hx, ← hy, c3]
        exact h3 c m rfl rfl
  | @off c z M A W hj hp _ ih =>
    intro hn
    have hn' : NJ b e ([c] ++ (M ++ [z])) := hn
    exact ih (fun d hd => hE d (by simp [hd])) (nj_app.mp (nj_app.mp hn').2.1).1
theorem pow_head {w : List Nat} (hw : w ≠ []) {n : Nat} (hn : 0 < n) : (powT w n).head? = w.head? ∧ (powT w n).getLast? = w.getLast? ∧ powT w n ≠ [] := by
  obtain ⟨k, rfl⟩ : ∃ k, n = k + 1 := ⟨n - 1, by omega⟩
  have e1 : powT w (k + 1) = w ++ powT w k := (powT_comm w k).symm
  have e2 : powT w (k + 1) = powT w k ++ w := rfl
  refine ⟨?_, ?_, ?_⟩
  · rw [e1, List.head?_append]
    cases w with
    | nil => exact absurd rfl hw
    | cons c w => rfl
  · rw [e2, List.getLast?_append, List.getLast?_eq_some_getLast hw]
    rfl
  · rw [e2]
    exact fun q => hw (List.append_eq_nil_iff.mp q).2
/-- a loop has an order -/
theorem Gbk.loop_ord (h : Gbk sg b e pr rs) (g : Gpd sg b e pr inv) {x : Nat} (hx : x ∈ sg) (hl : e x = b x) : ∃ k, 0 < k ∧ pz rs [x] k := by
  refine Classical.byContradiction fun hc => ?_
  have := h.lp_few g hx hl (n := sg.length + 1) fun k k0 _ hz => hc ⟨k, k0, (h.pz_lp g hx hl k).mpr hz⟩
  omega
/-- of what is so many times another text, the core is so many times its core -/
theorem Gbk.root (h : Gbk sg b e pr rs) (g : Gpd sg b e pr inv) {E A W x : List Nat} {n : Nat} (uE : Uw b e pr E A W) (hE : ∀ c ∈ E, c ∈ sg) (nE : NJ b e E) (hW : W ≠ []) (cW : ∀ c d, W.getLast? = some c → W.head? = some d → e c ≠ b d)
    (hx : ∀ c ∈ x, c ∈ sg) (hn : 0 < n) (hp : overP rs (powT x n) = E) : ∃ Wx, W = powT Wx n ∧ Uw b e pr (overP rs x) A Wx := by
  obtain ⟨mX, _⟩ := h.over_mem g hx
  have nX := h.over_nj g hx
  obtain ⟨Ax, Wx, uX⟩ := uw_all b e pr _ (overP rs x) (Nat.le_refl _)
  obtain ⟨hAx, hWx, hf⟩ := g.uw_form uX mX
  obtain ⟨nWx, fWx⟩ := g.uw_core uX mX nX
  have oX := h.uw_over g uX mX
  rw [h.nn] at oX
  have nW := (g.uw_core uE hE nE).1
  have hA := (g.uw_form uE hE).1
  have fixE : overP rs E = E := (nf_over h.good).fix (h.irr_nj nE)
  -- E has no order
  have noE : ∀ k, 0 < k → ¬ pz rs E k := fun k k0 hz => by
    have oE := h.uw_over g uE hE
    rw [← h.pz_over g oE k, h.pz_conj g hA] at hz
    exact h.no_order hW nW cW k k0 hz
  have noX : ∀ k, 0 < k → ¬ pz rs x k := fun k k0 hz => by
    refine noE k k0 ?_
    have h1 : overP rs (powT (powT x k) n) = overP rs (powT [] n) := h.pow_over g (by rw [show overP rs (powT x k) = [] from hz, h.nil]) n
    have h2 : powT ([] : List Nat) n = [] := List.eq_nil_iff_forall_not_mem.mpr fun c hc => nomatch (powT_mem hc : c ∈ [])
    rw [h2, h.nil, powT_mul, Nat.mul_comm, ← powT_mul] at h1
    have h3 : overP rs (powT E k) = overP rs (powT (powT x n) k) := h.pow_over g (by rw [fixE, hp]) k
    show overP rs (powT E k) = []
    rw [h3, h1]
  have noWx : ∀ k, 0 < k → ¬ pz rs Wx k := fun k k0 hz => by
    refine noX k k0 ?_
    rw [← h.pz_over g oX k, h.pz_conj g hAx]
    exact hz
  have hWx0 : Wx ≠ [] := fun q => by
    refine noWx 1 (by decide) ?_
    rw [q]
    exact h.nil
  have cWx : ∀ c d, Wx.getLast? = some c → Wx.head? = some d → e c ≠ b d := by
    rcases fWx with q | q
    · obtain ⟨l, rfl⟩ : ∃ l, Wx = [l] := by
        match Wx, hWx0, q with
        | [l], _, _ => exact ⟨l, rfl⟩
      intro c d hc hd hj
      simp at hc hd
      subst hc hd
      obtain ⟨k, k0, hk⟩ := h.loop_ord g (hWx l List.mem_cons_self) hj
      exact noWx k k0 hk
    · exact q
  have oP : overP rs (Ax ++ powT Wx n ++ invT inv Ax) = E := by
    rw [← h.pow_conj g hAx n, h.pow_over g oX n, hp]
  obtain ⟨hh, hg, hN0⟩ := pow_head hWx0 hn
  have nN := (nj_pow nWx cWx n).1
  rcases hf with hf | ⟨A0, c, M, z, u, rfl, rfl, hf, hj, hpz⟩
  · have nE' : NJ b e (Ax ++ powT Wx n ++ invT inv Ax) := nj_swap (u := Wx) (by rw [← hf]; exact nX) nN (fun c d hc hd => by rw [hh, hd] at hc; cases hc; rfl) (fun c d hc hd => by rw [hg, hd] at hc; cases hc; rfl) hWx0 hN0
    rw [(nf_over h.good).fix (h.irr_nj nE')] at oP
    have h1 : Uw b e pr (Ax ++ powT Wx n ++ invT inv Ax) (Ax ++ []) (powT Wx n) := g.uw_of (Uw.stop (.inr fun c d hc hd => cWx c d (by rw [← hg]; exact hc) (by rw [← hh]; exact hd))) hAx
    rw [oP, List.append_nil] at h1
    obtain ⟨e1, e2⟩ := uE.det h1
    exact ⟨Wx, e2, by rw [e1]; exact uX⟩
  · obtain ⟨k, rfl⟩ : ∃ k, n = k + 1 := ⟨n - 1, by omega⟩
    have hA0 : ∀ d ∈ A0, d ∈ sg := fun d hd => hAx d (by simp [hd])
    have hc := hAx c (by simp)
    have hz := mX z (by rw [hf]; simp)
    obtain ⟨c1, c2, c3⟩ := g.cl z hz c hc hj u hpz
    have eN : powT (M ++ [u]) (k + 1) = powT (M ++ [u]) k ++ M ++ [u] := by
      show powT (M ++ [u]) k ++ (M ++ [u]) = _
      rw [List.append_assoc]
    rw [eN] at nN
    obtain ⟨nP, _, lP⟩ := nj_app.mp nN
    have nX' : NJ b e (A0 ++ (c :: (M ++ [z])) ++ invT inv A0) := by rw [← hf]; exact nX
    have nC : NJ b e ([c] ++ (M ++ [z])) := (nj_app.mp (nj_app.mp nX').1).2.1
    have hd0 : ∀ d', (powT (M ++ [u]) k ++ M ++ [z]).head? = some d' → e c ≠ b d' := fun d' hd' => by
      have hC := (nj_app.mp nC).2.2
      cases k with
      | zero => exact hC c d' rfl (by simpa [powT] using hd')
      | succ k =>
        rw [show powT (M ++ [u]) (k + 1) = (M ++ [u]) ++ powT (M ++ [u]) k from (powT_comm _ k).symm] at hd'
        cases M with
        | nil =>
          simp at hd'
          rw [← hd', c2]
          exact hC c z rfl rfl
        | cons m M =>
          simp at hd'
          rw [← hd']
          exact hC c m rfl rfl
    have nN' : NJ b e (c :: ((powT (M ++ [u]) k ++ M) ++ [z])) := by
      have h1 : NJ b e ((powT (M ++ [u]) k ++ M) ++ [z]) := nj_app.mpr ⟨nP, trivial, fun p q hp' hq => by
        have : q = z := by simpa using hq.symm
        rw [this, ← c2]
        exact lP p u hp' rfl⟩
      show NJ b e ([c] ++ ((powT (M ++ [u]) k ++ M) ++ [z]))
      exact nj_app.mpr ⟨trivial, h1, fun p q hp' hq => by
        have : p = c := by simpa using hp'.symm
        rw [this]
        exact hd0 q hq⟩
    have nE' : NJ b e (A0 ++ (c :: ((powT (M ++ [u]) k ++ M) ++ [z])) ++ invT inv A0) := nj_swap (u := c :: (M ++ [z])) nX' nN' (fun p q hp' hq => by simp at hp' hq; rw [← hp', ← hq]) (fun p q hp' hq => by
      rw [show c :: ((powT (M ++ [u]) k ++ M) ++ [z]) = (c :: (powT (M ++ [u]) k ++ M)) ++ [z] from rfl, List.getLast?_append] at hp'
      rw [show c :: (M ++ [z]) = (c :: M) ++ [z] from rfl, List.getLast?_append] at hq
      simp at hp' hq
      rw [← hp', ← hq]) (by simp) (by simp)
    have h1 : Uw b e pr (A0 ++ (c :: ((powT (M ++ [u]) k ++ M) ++ [z])) ++ invT inv A0) (A0 ++ [c]) ((powT (M ++ [u]) k ++ M) ++ [u]) := g.uw_of (Uw.one hj hpz) hA0
    have hE'm : ∀ d ∈ A0 ++ (c :: ((powT (M ++ [u]) k ++ M) ++ [z])) ++ invT inv A0, d ∈ sg := fun d hd => by
      rcases List.mem_append.mp hd with q | q
      · rcases List.mem_append.mp q with q | q
        · exact hA0 d q
        · rcases List.mem_cons.mp q with q | q
          · rw [q]; exact hc
          · rcases List.mem_append.mp q with q | q
            · rcases List.mem_append.mp q with q | q
              · exact hWx d (powT_mem q)
              · exact hWx d (by simp [q])
            · rw [List.mem_singleton.mp q]; exact hz
      · exact g.inv_mem hA0 d q
    have o1 := h.uw_over g h1 hE'm
    rw [(nf_over h.good).fix (h.irr_nj nE'), ← eN, oP] at o1
    rw [← o1] at h1
    obtain ⟨e1, e2⟩ := uE.det h1
    exact ⟨M ++ [u], by rw [e2, eN], by rw [e1]; exact uX⟩
end
end Bk
set_option Elab.async false
set_option linter.all false
set_option maxRecDepth 100000
namespace Bk
open PySem PySem.Spec PyProof.Rows L2
open Cf (Step Star Nf)
/-! the law's core of a text -/
section
variable {Pl : Type} [DecidableEq Pl] {sg : List Nat} {b e : Nat → Pl} {pr : Nat → Nat → Option Nat} {inv : Nat → Nat} {rs : List (Str × Str)}
def lturn (rs : List (Str × Str)) (c : List Nat) : List Nat := if 1 < c.length then overP rs (c.drop (c.length - 1) ++ c.take (c.length - 1)) else c
def lstep (rs : List (Str × Str)) (c : List Nat) : List Nat := if (lturn rs c).length < c.length then lturn rs c else c
def lcore (rs : List (Str × Str)) (E : List Nat) : Nat → List Nat
  | 0 => E
  | n + 1 => lstep rs (lcore rs E n)
theorem lturn_snoc (c : Nat) (M : List Nat) (z : Nat) : lturn rs (c :: (M ++ [z])) = overP rs (z :: c :: M) := by
  unfold lturn
  have hl : (c :: (M ++ [z])).length - 1 = (c :: M).length := by simp
  rw [if_pos (by simp), hl, show c :: (M ++ [z]) = (c :: M) ++ [z] from rfl, List.drop_left', List.take_left']
  · rfl
  · rfl
  · rfl
theorem Gbk.lstep_same (h : Gbk sg b e pr rs) {c : List Nat} (hn : NJ b e c) (hc : c.length ≤ 1 ∨ ∀ x y, c.getLast? = some x → c.head? = some y → e x ≠ b y) : lstep rs c = c := by
  unfold lstep
  by_cases h1 : 1 < c.length
  · have hc := hc.resolve_left (by omega)
    obtain ⟨d, c', rfl⟩ := List.exists_cons_of_ne_nil (l := c) fun q => by rw [q] at h1; simp at h1
    have hc' : c' ≠ [] := fun q => by rw [q] at h1; simp at h1
    have e1 : c' = c'.dropLast ++ [c'.getLast hc'] := (List.dropLast_concat_getLast hc').symm
    generalize c'.dropLast = M at e1
    generalize c'.getLast hc' = z at e1
    subst e1
    have hj : e z ≠ b d := hc z d (by rw [show d :: (M ++ [z]) = (d :: M) ++ [z] from rfl, List.getLast?_append]; rfl) rfl
    have hn1 : NJ b e ((d :: M) ++ [z]) := hn
    have hn2 : NJ b e (z :: d :: M) := ⟨hj, (nj_app.mp hn1).1⟩
    rw [lturn_snoc, (nf_over h.good).fix (h.irr_nj hn2), if_neg (by simp)]
  · have : lturn rs c = c := by unfold lturn; rw [if_neg h1]
    rw [this, if_neg (Nat.lt_irrefl _)]
theorem Gbk.lcore_ok (h : Gbk sg b e pr rs) (g : Gpd sg b e pr inv) {E A W : List Nat} (u : Uw b e pr E A W) (hE : ∀ c ∈ E, c ∈ sg) (nE : NJ b e E) : ∀ i, (∃ A', Uw b e pr (lcore rs E i) A' W ∧ NJ b e (lcore rs E i) ∧ (∀ c ∈ lcore rs E i, c ∈ sg) ∧ (A' = [] ∨ (lcore rs E i).length + 2 * i ≤ E.length)) ∨
    ∃ M v, lcore rs E i = [v] ++ M ∧ W = M ++ [v] ∧ NJ b e ([v] ++ M) ∧ NJ b e W
  | 0 => .inl ⟨A, u, nE, hE, .inr (Nat.le_refl _)⟩
  | i + 1 => by
    rcases Gbk.lcore_ok h g u hE nE i with ⟨A', k, hn, hm, hl⟩ | ⟨M, v, h1, h2, h3, h4⟩
    · generalize hc : lcore rs E i = c at k hn hm hl
      have hs : lcore rs E (i + 1) = lstep rs c := by rw [← hc]; rfl
      rw [hs]
      cases k with
      | stop hst =>
        rw [h.lstep_same hn hst]
        exact .inl ⟨[], Uw.stop hst, hn, hm, .inl rfl⟩
      | @one d z w M hj hp =>
        have hz := hm z (by simp)
        have hd := hm d List.mem_cons_self
        obtain ⟨c1, c2, c3⟩ := g.cl z hz d hd hj w hp
        have hn' : NJ b e ([d] ++ (M ++ [z])) := hn
        obtain ⟨_, q2, q3⟩ := nj_app.mp hn'
        obtain ⟨q4, _, q5⟩ := nj_app.mp q2
        have nW : NJ b e ([w] ++ M) := nj_app.mpr ⟨trivial, q4, fun x y hx hy => by
          have : x = w := by simpa using hx.symm
          rw [this, c3]
          exact q3 d y rfl (by rw [List.head?_append, hy]; rfl)⟩
        have e1 : lturn rs (d :: (M ++ [z])) = [w] ++ M := by
          rw [lturn_snoc]
          have o1 : overP rs [z, d] = overP rs [w] := by rw [h.over2 hz hd hj, hp, h.over1 (u := [w]) (by simp)]; rfl
          have := h.cong g [] M o1
          rw [show z :: d :: M = [] ++ [z, d] ++ M from rfl, this]
          exact (nf_over h.good).fix (h.irr_nj nW)
        right
        refine ⟨M, w, ?_, rfl, nW, nj_app.mpr ⟨q4, trivial, fun x y hx hy => by
          have : y = w := by simpa using hy.symm
          rw [this, c2]
          exact q5 x z hx rfl⟩⟩
        unfold lstep
        rw [e1, if_pos (by simp)]
      | @off d z M A2 _ hj hp k =>
        have hz := hm z (by simp)
        have hd := hm d List.mem_cons_self
        have hn' : NJ b e ([d] ++ (M ++ [z])) := hn
        have nM := (nj_app.mp (nj_app.mp hn').2.1).1
        have e1 : lturn rs (d :: (M ++ [z])) = M := by
          rw [lturn_snoc]
          have := h.out g [] M (u := [z, d]) (by rw [h.over2 hz hd hj, hp]; rfl)
          rw [show z :: d :: M = [] ++ [z, d] ++ M from rfl, this]
          exact (nf_over h.good).fix (h.irr_nj nM)
        have e2 : lstep rs (d :: (M ++ [z])) = M := by
          unfold lstep
          rw [e1, if_pos (by simp; omega)]
        rw [e2]
        refine .inl ⟨A2, k, nM, fun x hx => hm x (by simp [hx]), .inr ?_⟩
        rcases hl with hl | hl
        · cases hl
        · simp at hl
          omega
    · right
      refine ⟨M, v, ?_, h2, h3, h4⟩
      show lstep rs (lcore rs E i) = _
      rw [h1]
      refine h.lstep_same h3 ?_
      cases M with
      | nil => left; simp
      | cons m M =>
        right
        intro x y hx hy
        have hy' : y = v := by simpa using hy.symm
        rw [hy']
        rw [h2] at h4
        refine (nj_app.mp h4).2.2 x v ?_ rfl
        rw [List.getLast?_append] at hx
        cases hM : (m :: M).getLast? with
        | none => simp at hM
        | some t => rw [hM] at hx; simpa using hx
theorem Gbk.lcore_done (h : Gbk sg b e pr rs) (g : Gpd sg b e pr inv) {E A W : List Nat} (u : Uw b e pr E A W) (hE : ∀ c ∈ E, c ∈ sg) (nE : NJ b e E) : times (lcore rs E E.length) = times W ∧ (lcore rs E E.length).length = W.length := by
  rcases h.lcore_ok g u hE nE E.length with ⟨A', k, hn, hm, hl⟩ | ⟨M, v, h1, h2, h3, h4⟩
  · have hA : A' = [] := by
      rcases hl with hl | hl
      · exact hl
      · have h0 : (lcore rs E E.length).length = 0 := by omega
        have h1 : lcore rs E E.length = [] := List.length_eq_zero_iff.mp h0
        rw [h1] at k
        exact (k.det (Uw.stop (.inl (by simp)))).1
    generalize lcore rs E E.length = c at k
    subst hA
    have e1 : W = c := by
      generalize hz : ([] : List Nat) = Z at k
      cases k with
      | stop _ => rfl
      | one _ _ => cases hz
      | off _ _ _ => cases hz
    rw [e1]
    exact ⟨rfl, rfl⟩
  · rw [h1, h2, times_turn]
    exact ⟨rfl, by simp⟩
end
/-- the law's search for the shortest piece -/
theorem times_law {W : List Nat} (hW : W ≠ []) {s : Nat} (h0 : 0 < s) (hl : s ≤ W.length) (h : s = W.length ∨ Row W s) (hm : ∀ j, 0 < j → j < s → ¬ Row W j) : W.length / s = times W := by
  have hr : Row W s := by
    rcases h with h | h
    · rw [h]
      unfold Row
      rw [List.take_length, Nat.div_self (List.length_pos_iff.mpr hW), powT_one]
    · exact h
  unfold times
  rw [← row_uni h0 hl hr hm]
end Bk
set_option Elab.async false
set_option linter.all false
set_option maxRecDepth 100000
namespace Bk
open PySem PySem.Spec PyProof.Rows L2
open PySem.StrLaws (occBody occ_eq)
/-! the first place of one text in another, from a place on -/
theorem occ_full (s sub : Str) (hi k f : Nat) : ∀ (l : List Nat), (forIn l ((#[k] : Array Nat), f) (occBody s sub hi 1)).run.fst = #[k]
  | [] => rfl
  | a :: l => by
    rw [List.forIn_cons]
    unfold occBody
    rw [if_neg (fun h => by simp at h)]
    exact occ_full s sub hi k f l
theorem occ_find (s sub : Str) (hi : Nat) : ∀ (l : List Nat) (free : Nat), (∀ i ∈ l, free ≤ i) → (forIn l ((#[] : Array Nat), free) (occBody s sub hi 1)).run.fst.toList = (l.find? fun i => decide (i + sub.length ≤ hi) && Builtin.Str.subAt s sub i).toList
  | [], free, _ => rfl
  | a :: l, free, hf => by
    rw [List.forIn_cons]
    unfold occBody
    have ha : free ≤ a := hf a List.mem_cons_self
    by_cases hc : a + sub.length ≤ hi ∧ Builtin.Str.subAt s sub a = true
    · have c1 : (((#[] : Array Nat), free).fst.size < 1 ∧ ((#[] : Array Nat), free).snd ≤ a) ∧ a + sub.length ≤ hi := ⟨⟨by simp, ha⟩, hc.1⟩
      rw [if_pos ⟨c1, hc.2⟩, List.find?_cons_of_pos (by rw [Bool.and_eq_true, decide_eq_true_eq]; exact hc)]
      show (forIn l ((#[a] : Array Nat), a + sub.length) (occBody s sub hi 1)).run.fst.toList = [a]
      rw [occ_full]
    · have c2 : ¬ (((((#[] : Array Nat), free).fst.size < 1 ∧ ((#[] : Array Nat), free).snd ≤ a) ∧ a + sub.length ≤ hi) ∧ Builtin.Str.subAt s sub a = true) := fun h => hc ⟨h.1.2, h.2⟩
      rw [if_neg c2, List.find?_cons_of_neg (by rw [Bool.and_eq_true, decide_eq_true_eq]; exact hc)]
      exact occ_find s sub hi l free fun i hi' => hf i (List.mem_cons_of_mem _ hi')
theorem sub_rot {x y : Str} {W : List Nat} (hx : cl x = W ++ W) (hy : cl y = W) {i : Nat} (hi : i ≤ W.length) : Builtin.Str.subAt x y i = true ↔ Rot W i := by
  unfold Builtin.Str.subAt Rot
  have hl : y.length = W.length := by rw [← len_cl, hy]
  rw [beq_iff_eq, hl, ← Array.toList_inj, Array.toList_extract]
  show List.extract (cl x) i (i + W.length) = cl y ↔ _
  rw [hx, hy]
  have e1 : List.extract (W ++ W) i (i + W.length) = W.drop i ++ W.take i := by
    show ((W ++ W).drop i).take (i + W.length - i) = _
    rw [show i + W.length - i = W.length by omega, List.drop_append_of_le_length hi, List.take_append, List.length_drop, List.take_of_length_le (by rw [List.length_drop]; omega), show W.length - (W.length - i) = i by omega]
  rw [e1]
theorem find_rot {x y : Str} {W : List Nat} (hx : cl x = W ++ W) (hy : cl y = W) (hW : W ≠ []) : Txt.find3 x y 1 = (pieceN W : Nat) := by
  obtain ⟨p0, p1, p2, p3⟩ := pieceN_ok hW
  have hxl : x.length = W.length + W.length := by rw [← len_cl, hx, List.length_append]
  have hyl : y.length = W.length := by rw [← len_cl, hy]
  unfold Txt.find3
  have e1 : fromIndex x.length 1 = 1 := rfl
  rw [e1, occ_eq]
  have e2 := occ_find x y x.length (List.range' 1 (x.length + 1 - 1)) 1 fun i hi => (List.mem_range'_1.mp hi).1
  have e3 : (List.range' 1 (x.length + 1 - 1)).find? (fun i => decide (i + y.length ≤ x.length) && Builtin.Str.subAt x y i) = some (pieceN W) := by
    rw [List.find?_range'_eq_some]
    refine ⟨?_, List.mem_range'_1.mpr ⟨p0, by omega⟩, fun j j0 j1 => ?_⟩
    · rw [Bool.and_eq_true, decide_eq_true_eq]
      exact ⟨by omega, (sub_rot hx hy p1).mpr p2⟩
    · rw [Bool.not_eq_true', Bool.and_eq_false_iff]
      right
      have := p3 j j0 j1
      rw [← sub_rot hx hy (by omega)] at this
      simpa using this
  rw [e3] at e2
  rw [e2]
  rfl
theorem lcore_len (rs : List (Str × Str)) (E : List Nat) : ∀ i, (lcore rs E i).length ≤ E.length
  | 0 => Nat.le_refl _
  | i + 1 => by
    have := lcore_len rs E i
    show (lstep rs (lcore rs E i)).length ≤ _
    unfold lstep
    split <;> omega
end Bk
set_option Elab.async false
set_option linter.all false
set_option maxRecDepth 100000
namespace Bk
open PySem PySem.Spec PyProof.Rows L2
open Cf (Step Star Nf)
/-! what the law of roots asks -/
theorem piece_self {W : List Nat} (hW : W ≠ []) : piece W ≠ [] ∧ times (piece W) = 1 ∧ piece (piece W) = piece W := by
  obtain ⟨a1, a2, a3, a4⟩ := piece_ok hW
  obtain ⟨p0, _, _, _⟩ := pieceN_ok hW
  have hp : piece W ≠ [] := fun e => by rw [e] at a3; simp at a3; omega
  obtain ⟨b1, b2, b3, b4⟩ := piece_ok hp
  have h1 : W = powT (piece (piece W)) (times (piece W) * times W) := by
    rw [← powT_mul, b1, a1]
  have h2 := (times_max hW h1).2.1
  have ht : times (piece W) = 1 := by
    rcases Nat.lt_or_ge 1 (times (piece W)) with z | z
    · have : 2 * times W ≤ times (piece W) * times W := Nat.mul_le_mul_right _ z
      omega
    · omega
  refine ⟨hp, ht, ?_⟩
  rw [ht, powT_one] at b1
  exact b1
section
variable {Pl : Type} [DecidableEq Pl] {sg : List Nat} {b e : Nat → Pl} {pr : Nat → Nat → Option Nat} {inv : Nat → Nat} {rs : List (Str × Str)}
theorem Gbk.loop_ord9 (h : Gbk sg b e pr rs) (g : Gpd sg b e pr inv) {x : Nat} (hx : x ∈ sg) (hl : e x = b x) : ∃ k, 0 < k ∧ k ≤ sg.length + 1 ∧ pz rs [x] k := by
  refine Classical.byContradiction fun hc => ?_
  have := h.lp_few g hx hl (n := sg.length + 1) fun k k0 k1 hz => hc ⟨k, k0, k1, (h.pz_lp g hx hl k).mpr hz⟩
  omega
theorem dueN_no {w : List Nat} (h : dueN rs w = none) {k : Nat} (k0 : 0 < k) (k9 : k ≤ 9) : ¬ pz rs w k := fun hz => by
  unfold dueN at h
  rw [Option.map_eq_none_iff, List.find?_eq_none] at h
  exact h (k - 1) (List.mem_range.mpr (by omega)) (decide_eq_true (by rw [show k - 1 + 1 = k by omega]; exact hz))
theorem Gbk.uw_pz (h : Gbk sg b e pr rs) (g : Gpd sg b e pr inv) {T A W : List Nat} (hT : ∀ c ∈ T, c ∈ sg) (u : Uw b e pr (overP rs T) A W) (n : Nat) : pz rs T n ↔ pz rs W n := by
  have hm := (h.over_mem g hT).1
  have o := h.uw_over g u hm
  rw [h.nn] at o
  rw [← h.pz_over g o n, h.pz_conj g (g.uw_form u hm).1]
/-- a text without an order -/
theorem Gbk.no_due (h : Gbk sg b e pr rs) (g : Gpd sg b e pr inv) (hs : sg.length ≤ 8) {T A W : List Nat} (hT : ∀ c ∈ T, c ∈ sg) (u : Uw b e pr (overP rs T) A W) (hd : dueN rs T = none) : W ≠ [] ∧ ∀ c d, W.getLast? = some c → W.head? = some d → e c ≠ b d := by
  have hm := (h.over_mem g hT).1
  obtain ⟨_, hW, _⟩ := g.uw_form u hm
  have hno : ∀ k, 0 < k → k ≤ 9 → ¬ pz rs W k := fun k k0 k9 => by
    rw [← h.uw_pz g hT u k]
    exact dueN_no hd k0 k9
  have hW0 : W ≠ [] := fun q => hno 1 (by decide) (by decide) (by rw [q]; exact h.nil)
  refine ⟨hW0, ?_⟩
  rcases (g.uw_core u hm (h.over_nj g hT)).2 with q | q
  · obtain ⟨l, rfl⟩ : ∃ l, W = [l] := by
      match W, hW0, q with
      | [l], _, _ => exact ⟨l, rfl⟩
    intro c d hc hd' hj
    simp at hc hd'
    subst hc hd'
    obtain ⟨k, k0, k1, hk⟩ := h.loop_ord9 g (hW l List.mem_cons_self) hj
    exact hno k k0 (by omega) hk
  · exact q
/-- the root -/
def rootT (rs : List (Str × Str)) (inv : Nat → Nat) (A W : List Nat) : List Nat := overP rs (A ++ piece W ++ invT inv A)
structure RootF (sg : List Nat) (b e : Nat → Pl) (pr : Nat → Nat → Option Nat) (inv : Nat → Nat) (rs : List (Str × Str)) (T A W : List Nat) : Prop where
  ne : W ≠ []
  max : ∀ (x : List Nat) (n : Nat), (∀ c ∈ x, c ∈ sg) → 0 < n → overP rs (powT x n) = overP rs T → n ≤ times W ∧ (n = times W → overP rs x = rootT rs inv A W)
  mem : ∀ c ∈ rootT rs inv A W, c ∈ sg
  irr : overP rs (rootT rs inv A W) = rootT rs inv A W
  pow : overP rs (powT (rootT rs inv A W) (times W)) = overP rs T
  uw : Uw b e pr (overP rs (rootT rs inv A W)) A (piece W)
  due : dueN rs (rootT rs inv A W) = none
  len : ∀ i, i ≤ times W → (overP rs (powT (rootT rs inv A W) i)).length ≤ 2 * A.length + W.length
  rl : (rootT rs inv A W).length ≤ 2 * A.length + W.length
theorem Gbk.rootF (h : Gbk sg b e pr rs) (g : Gpd sg b e pr inv) (hs : sg.length ≤ 8) {T A W : List Nat} (hT : ∀ c ∈ T, c ∈ sg) (u : Uw b e pr (overP rs T) A W) (hd : dueN rs T = none) : RootF sg b e pr inv rs T A W := by
  have hm := (h.over_mem g hT).1
  have hn := h.over_nj g hT
  obtain ⟨hW0, cW⟩ := h.no_due g hs hT u hd
  obtain ⟨hA, hW, _⟩ := g.uw_form u hm
  obtain ⟨w1, w2, w3, w4⟩ := piece_ok hW0
  obtain ⟨s1, s2, s3⟩ := piece_self hW0
  have oT := h.uw_over g u hm
  rw [h.nn] at oT
  have hpm : ∀ c ∈ piece W, c ∈ sg := fun c hc => hW c (List.mem_of_mem_take hc)
  have hrm : ∀ c ∈ A ++ piece W ++ invT inv A, c ∈ sg := fun c hc => by
    rcases List.mem_append.mp hc with q | q
    · rcases List.mem_append.mp q with q | q
      · exact hA c q
      · exact hpm c q
    · exact g.inv_mem hA c q
  have mr : ∀ c ∈ rootT rs inv A W, c ∈ sg := (h.over_mem g hrm).1
  have powr : ∀ i, overP rs (powT (rootT rs inv A W) i) = overP rs (A ++ powT (piece W) i ++ invT inv A) := fun i => by
    rw [← h.pow_conj g hA i]
    exact h.pow_over g (h.nn _) i
  have pw : overP rs (powT (rootT rs inv A W) (times W)) = overP rs T := by rw [powr, w1, oT]
  obtain ⟨Wx, e1, e2⟩ := h.root g u hm hn hW0 cW mr w4 pw
  have e3 := (times_max hW0 e1).2.2 rfl
  rw [e3] at e2
  have hil : (invT inv A).length = A.length := by
    unfold invT
    rw [List.length_map, List.length_reverse]
  refine ⟨hW0, fun x n hx n0 hp => ?_, mr, h.nn _, pw, e2, ?_, fun i hi => ?_, ?_⟩
  · obtain ⟨Wx, q1, q2⟩ := h.root g u hm hn hW0 cW hx n0 hp
    obtain ⟨_, q3, q4⟩ := times_max hW0 q1
    refine ⟨q3, fun q => ?_⟩
    rw [q4 q] at q2
    have := h.uw_over g q2 (h.over_mem g hx).1
    rw [h.nn] at this
    exact this.symm
  · refine dueN_none fun n n0 => ?_
    rw [h.uw_pz g mr e2 n]
    have hp := pow_head s1 w4
    rw [w1] at hp
    refine h.no_order s1 ?_ (fun c d hc hd' => cW c d (by rw [hp.2.1]; exact hc) (by rw [hp.1]; exact hd')) n n0
    have hnW := (g.uw_core u hm hn).1
    exact nj_take hnW _
  · rw [powr]
    refine Nat.le_trans (h.over_mem g (u := A ++ powT (piece W) i ++ invT inv A) fun c hc => ?_).2 ?_
    · rcases List.mem_append.mp hc with q | q
      · rcases List.mem_append.mp q with q | q
        · exact hA c q
        · exact hpm c (powT_mem q)
      · exact g.inv_mem hA c q
    · rw [List.length_append, List.length_append, powT_len, hil, w3]
      have : i * pieceN W ≤ times W * pieceN W := Nat.mul_le_mul_right _ hi
      rw [Nat.mul_comm] at w2
      omega
  · refine Nat.le_trans (h.over_mem g hrm).2 ?_
    rw [List.length_append, List.length_append, hil]
    have : (piece W).length ≤ W.length := by
      unfold piece
      rw [List.length_take]
      omega
    omega
end
end Bk
namespace Bk
open PySem PySem.Spec PyProof.Rows L2
section
variable {Pl : Type} [DecidableEq Pl] {sg : List Nat} {b e : Nat → Pl} {pr : Nat → Nat → Option Nat} {inv : Nat → Nat} {rs : List (Str × Str)}
theorem Gbk.levs_ok (h : Gbk sg b e pr rs) : ∀ k, ∀ t ∈ levs rs sg k, (∀ c ∈ t, c ∈ sg) ∧ NJ b e t
  | 0, t, ht => by
    rw [List.mem_singleton.mp ht]
    exact ⟨fun c hc => (nomatch hc), trivial⟩
  | k + 1, t, ht => by
    obtain ⟨u, hu, h2⟩ := List.mem_flatMap.mp (show t ∈ longer rs sg (levs rs sg k) from ht)
    obtain ⟨h3, h4⟩ := List.mem_filter.mp h2
    obtain ⟨c, hc, rfl⟩ := List.mem_map.mp h3
    obtain ⟨m, nj⟩ := Gbk.levs_ok h k u hu
    refine ⟨fun d hd => ?_, nj_app.mpr ⟨nj, trivial, fun x y hx hy hj => ?_⟩⟩
    · rcases List.mem_append.mp hd with z | z
      · exact m d z
      · rw [List.mem_singleton.mp z]; exact hc
    · have hy' : y = c := by simpa using hy.symm
      subst hy'
      have hxm : x ∈ u := List.mem_of_getLast? hx
      obtain ⟨u', rfl⟩ : ∃ u', u = u' ++ [x] := by
        have hne : u ≠ [] := fun q => by rw [q] at hx; cases hx
        refine ⟨u.dropLast, ?_⟩
        have h5 : u.getLast hne = x := by
          rw [List.getLast?_eq_some_getLast hne] at hx
          exact Option.some.inj hx
        rw [← h5]
        exact (List.dropLast_concat_getLast hne).symm
      have hr := (h.mem (mkS [x, y], mkS (pr x y).toList)).mpr ⟨x, m x hxm, y, hc, hj, rfl⟩
      rw [Bool.not_eq_true'] at h4
      unfold fitsEnd at h4
      rw [List.any_eq_false] at h4
      refine h4 _ hr ?_
      unfold ends
      rw [decide_eq_true_eq, len_mk]
      refine ⟨by simp, ?_⟩
      rw [cl_mk, show (u' ++ [x] ++ [y]).length - [x, y].length = u'.length by simp, List.append_assoc, List.drop_left']
      · rfl
      · rfl
theorem Gbk.up_ok (h : Gbk sg b e pr rs) {n : Nat} {u : List Nat} (hu : u ∈ endsUp rs sg n) : (∀ c ∈ u, c ∈ sg) ∧ u.length ≤ n ∧ overP rs u = u := by
  obtain ⟨k, hk, hk2⟩ := List.mem_flatMap.mp hu
  have := List.mem_range.mp hk
  obtain ⟨h1, h2⟩ := h.levs_ok k u hk2
  exact ⟨h1, by rw [levs_size k u hk2]; omega, (nf_over h.good).fix (h.irr_nj h2)⟩
theorem uw_len {E A W : List Nat} (u : Uw b e pr E A W) : 2 * A.length + W.length ≤ E.length + 1 := by
  induction u with
  | stop _ => simp
  | one _ _ => simp; omega
  | off _ _ _ ih => simp; omega
end
end Bk
set_option Elab.async false
set_option linter.all false
set_option maxRecDepth 100000
namespace K57
open PySem PySem.Spec PyProof.Rows L2
open Wp (wo_lt wo_le wo_gt wo_ge wo_eq wo_ne wo_in wo_nin wo_add wo_mul op_shlB ws_any wc_int wc_isi u65)
def topS (i : Nat) : Stmt := PySem.Challenge.pw_shrunkalike_k57_whole_roots.main.body.getD i (.Pass ⟨0, 0, 0, 0⟩)

abbrev s_is_row : Stmt := topS 18
abbrev N_is_row : List Str := ["thing"]
theorem sc_is_row : FnScope N_is_row ["thing"] (defScope s_is_row) := ⟨rfl, rfl, rfl, by decide +kernel, rfl, by decide +kernel, by decide +kernel⟩

abbrev s_is_text : Stmt := topS 20
abbrev N_is_text : List Str := ["signs", "thing", "most", "sign"]
theorem sc_is_text : FnScope N_is_text ["signs", "thing", "most"] (defScope s_is_text) := ⟨rfl, rfl, rfl, by decide +kernel, rfl, by decide +kernel, by decide +kernel⟩
local macro_rules | `(tactic| walk_at "W") => `(tactic| first
  | (with_reducible first
    | refine Wp.seq ?_ | refine Wp.asg ?_ | refine Wp.ret ?_ | refine Wp.retN ?_ | refine Wp.drop ?_ | refine Wp.nxt ?_ | refine Wp.ifs ?_ | refine Wp.gname ?_
    | refine Wp.op ?_ | refine Wp.un ?_ | refine Wp.tst ?_ | refine Wp.tb' ?_ | refine Wp.tnot ?_ | refine Wp.tand ?_ | refine Wp.tor ?_ | refine Wp.tandV ?_ | refine Wp.torV ?_ | refine Wp.tnotV ?_ | refine Wp.tif ?_ | refine Wp.tchain ?_
    | refine Wp.cb ?_ | refine Wp.call ?_ | refine Wp.cons ?_ | refine Wp.nil ?_ | refine Wp.gsub ?_ | refine Wp.cst ?_ | refine Wp.i0 ?_ | refine Wp.int1 ?_ | refine Wp.eb ?_ | refine Wp.ei ?_
    | refine Wp.gnil ?_ | refine Wp.gcons ?_ | refine Wp.mko ?_ | refine Wp.bm ?_ | refine Wp.ienum ?_ | refine Wp.tru ?_ | refine Wp.u1 ?_ | refine Wp.for_ ?_ | refine Wp.lc ?_ | refine Wp.istr ?_ | refine Wp.ilist ?_ | refine Wp.itup ?_ | refine Wp.irng1 ?_ | refine Wp.irng2 ?_ | refine Wp.yes ?_ | refine Wp.es ?_ | refine Wp.er ?_ | refine Wp.sl ?_ | refine Wp.nopart ?_ | refine Wp.part ?_ | refine Wp.lst ?_ | refine Wp.tup ?_
    | refine Wp.din ?_ | refine Wp.dnotin ?_ | refine Wp.dget ?_ | refine Wp.dget2 ?_ | refine Wp.dput ?_ | refine Wp.dnewK ?_ | refine Wp.dnewT ?_ | refine Wp.bm0 ?_ | refine Wp.m1 ?_ | refine Wp.exs ?_ | refine Wp.is0 ?_ | refine Wp.isnot0 ?_ | refine Wp.fld ?_ | refine Wp.sfld ?_
    | refine Wp.par ?_ | refine Wp.parV ?_ | refine Wp.brk ?_ | refine Wp.aug ?_ | refine Wp.ipaI ?_ | refine Wp.ipsI ?_ | refine Bk.ienumS ?_ | refine Wp.make_ ?_ | refine Wp.itnn ?_ | refine Wp.ltI ?_ | refine Wp.leI ?_ | refine Wp.leS ?_ | refine Wp.inSg ?_ | refine Wp.gtI ?_ | refine Wp.geI ?_ | refine Wp.eqI ?_ | refine Wp.neI ?_ | refine Wp.addI ?_ | refine Wp.ltS ?_ | refine Wp.eqS ?_ | refine Wp.neS ?_)
  | ((with_reducible refine' Wp.var ?hv ?_); (case hv => exact rfl))
  | ((with_reducible refine' Wp.ixl ?hs ?he ?_); (case hs => first | exact SqL.of upd_same | exact SqL.of (by assumption) | assumption); (case he => exact rfl))
  | ((with_reducible refine' Wp.setl ?hs ?he ?_); (case hs => first | exact upd_same | assumption); (case he => exact rfl))
  | ((with_reducible refine' Wp.modP ?hs ?_); (case hs => first | decide | omega))
  | ((with_reducible refine' Wp.divN ?hs ?ht ?_); (case hs => first | decide | omega); (case ht => first | decide | omega))
  | ((with_reducible refine' Wp.mulM ?hs ?ht ?_); (case hs => decide); (case ht => decide))
  | ((with_reducible refine' Wp.mulL ?hs ?_); (case hs => omega))
  | ((with_reducible refine' Wp.mulR ?hs ?_); (case hs => omega))
  | ((with_reducible refine' Wp.powS ?hs ?_); (case hs => decide))
  | ((with_reducible refine' Wp.shr ?hs ?_); (case hs => decide))
  | ((with_reducible refine' Wp.szl ?hs ?_); (case hs => first | decide | (simp; done)))
  | ((with_reducible refine' Wp.lenL ?hs ?_); (case hs => first | exact SqL.of upd_same | exact SqL.of (by assumption) | assumption))
  | ((with_reducible refine' Wp.lenT ?hs ?_); (case hs => first | exact SqT.of upd_same | exact SqT.of (by assumption) | assumption))
  | ((with_reducible refine' Wp.iteC ?hs ?_); (case hs => exact rfl)) | ((with_reducible refine' Wp.iteD ?hs ?_); (case hs => exact Bool.false_ne_true))
  | ((with_reducible refine' Wp.wp ?hs ?_); (case hs => rfl))
  | (with_reducible first | refine Wp.abs ?_ | refine Wp.max2 ?_ | refine Wp.min2 ?_)
  | ((with_reducible refine' Wp.sll ?hs ?_); (case hs => first | exact SqL.of upd_same | exact SqL.of (by assumption) | assumption)))
local macro_rules | `(tactic| walk_at "KQ") => `(tactic| first
  | exact Wp.kq "int" rfl (by decide +kernel) | exact Wp.kq "bool" rfl (by decide +kernel) | exact Wp.kq "str" rfl (by decide +kernel) | exact Wp.kq "list" rfl (by decide +kernel)
  | exact Wp.kq "tuple" rfl (by decide +kernel) | exact Wp.kq "NoneType" rfl (by decide +kernel) | exact Wp.kq "dict" rfl (by decide +kernel))

section
variable {P : Program} {w : World} {K : PySem.W.Frag} {mg : Str → Option Value} {base : Heap}
def spRow (K : PySem.W.Frag) : Sp := fun vs H Q _ => ∃ v d, vs = [v] ∧ Dp K H v d ∧ ∀ H', Same H H' → Q (.bl (Wp.row d).isSome) H'
theorem ok_row (B : Wp.Blt mg) {f : Addr} {fd : FuncData} (F : Fun K "is_row" "is_row" s_is_row f fd) : FnOk P w K mg base CX0 1 f fd ["thing"] (spRow K) := by
  refine F.ok sc_is_row (fun vs H Q E h => ?_) (fun cdv A outer s H vs Q E hr h => ?_)
  · obtain ⟨v, d, rfl, _⟩ := h
    rfl
  · obtain ⟨v, d, rfl, hd, q⟩ := h
    refine ⟨_, (pss_one (ps_ret (pe_callB (wc_isi (K := K)) (by rfl) B.isinstance (by decide +kernel) (pa_cons (pv 0) (pa_cons (pe_tup (pa_cons (pe_bltn (v := .ty "list") (by rfl) B.list (by decide +kernel) rfl) (pa_cons (pe_bltn (v := .ty "tuple") (by rfl) B.tuple (by decide +kernel) rfl) pa_nil))) pa_nil))))), ?_⟩
    refine Wp.st (σ' := [some v]) rfl ?_
    repeat walk_at "W"
    intro p hp
    have sm := Wp.same_upd (p := p) (o := .tup [.ty "list", .ty "tuple"]) hp
    have hd' := Wp.dp_same sm d v hd
    repeat walk_at "W"
    cases d with
    | list xs => exact Wp.isi2 (b := true) (c := false) hd' upd_same (by walk_at "KQ") (by walk_at "KQ") (q _ sm)
    | tuple xs => exact Wp.isi2 (b := false) (c := true) hd' upd_same (by walk_at "KQ") (by walk_at "KQ") (q _ sm)
    | _ => exact Wp.isi2 (b := false) (c := false) hd' upd_same (by walk_at "KQ") (by walk_at "KQ") (q _ sm)
def spText (K : PySem.W.Frag) : Sp := fun vs H Q _ => ∃ sg v d n, vs = [.str sg, v, .int n] ∧ Dp K H v d ∧ 0 ≤ n ∧ n ≤ 1000 ∧ (∀ z, d = .str z → z.length ≤ 16777216) ∧ ∀ H', Same H H' → Q (.bl (Wp.isText sg n d)) H'
theorem ok_text (B : Wp.Blt mg) {f : Addr} {fd : FuncData} (F : Fun K "is_text" "is_text" s_is_text f fd) : FnOk P w K mg base CX0 1 f fd ["signs", "thing", "most"] (spText K) := by
  refine F.ok sc_is_text (fun vs H Q E h => ?_) (fun cdv A outer s H vs Q E hr h => ?_)
  · obtain ⟨sg, v, d, n, rfl, _⟩ := h
    rfl
  · obtain ⟨sg, v, d, n, rfl, hd, hn0, hn1, hz, q⟩ := h
    refine ⟨_, (pss_cons (ps_if (PW.pt (pw_or (pt_not (pt_val (pe_callB (wc_isi (K := K)) (by rfl) B.isinstance (by decide +kernel) (pa_cons (pv 1) (pa_cons (pe_bltn (v := .ty "str") (by rfl) B.str (by decide +kernel) rfl) pa_nil))))) (pw_or1 (pt_cmpR wo_gt (pe_callB (Wp.wc_len (K := K)) (by rfl) B.len (by decide +kernel) (pa_cons (pv 1) pa_nil)) (pv 2) (nomark _))))) (pss_one (ps_ret pe_bl)) pss_nil)
  (pss_one (ps_ret (pe_callB (Wp.wc_all (K := K) rfl) (by rfl) B.all (by decide +kernel) (pa_cons (pe_lc (own := [("sign", 3)]) (g := gName 3) (by rfl) sc_is_text.nd (pi_str (pv 1)) (blkOk_by (own := [("sign", 3)]) (N := N_is_text) (sc := defScope s_is_text) (by decide +kernel)) (fun _ _ _ _ _ => pg_name (i := 3) sc_is_text.nd rfl (Or.inl rfl)) (fun _ _ _ _ _ => pts_nil) (fun _ _ _ _ _ => (pe_cmpR (wo_in (K := K) (u65 hr)) (pv 3) (pv 0) (by rfl)))) pa_nil))))), ?_⟩
    refine Wp.st (σ' := [some (.str sg), some v, some (.int n), none]) rfl ?_
    repeat walk_at "W"
    cases d with
    | str z =>
      cases hd
      refine Wp.isi1 (b := true) (.str z) (by walk_at "KQ") ?_
      repeat walk_at "W"
      repeat walk_at "W"
      refine Wp.lenS (hz z rfl) ?_
      repeat walk_at "W"
      refine Wp.itd (fun h0 => ?_) (fun h0 => ?_)
      · repeat walk_at "W"
        have e : Wp.isText sg n (.str z) = false := by
          show (decide ((z.length : Int) ≤ n) && _) = false
          rw [decide_eq_false (by omega)]; rfl
        rw [e] at q
        exact q _ (Same.refl _)
      · repeat walk_at "W"
        have e : Wp.isText sg n (.str z) = z.cps.toList.all fun c => decide (c ∈ sg.cps.toList) := by
          show (decide ((z.length : Int) ≤ n) && _) = _
          rw [decide_eq_true (by omega)]; rfl
        rw [e] at q
        intro A hA
        have sm := Wp.same_upd (p := A) (o := .lst []) hA
        refine Wp.lcIt walk_str (fun i H1 => Same H H1 ∧ H1 A = some (.lst (((z.cps.toList.take i).map fun c => decide (c ∈ sg.cps.toList)).map V.bl))) ⟨sm, upd_same⟩ (fun _ _ _ _ => trivial) ?_ ?_
        · rintro i x H1 H' hi ⟨s1, hl⟩ ⟨rfl, c, hc, rfl⟩
          repeat walk_at "W"
          repeat walk_at "W"
          refine ⟨_, hl, ?_, fun b o hb => ?_, ?_⟩
          · rw [List.length_map, List.length_map, List.length_take]
            have : z.length = z.cps.size := rfl
            have : z.length ≤ 1000 := by omega
            refine small1000 ?_
            omega
          · rw [upd_ne (ne_of_none hb hA)]
            exact s1 _ _ hb
          · rw [upd_same]
            have hc' : z.cps.toList[i]? = some c := by rw [Array.getElem?_toList]; exact hc
            rw [List.take_add_one, hc', List.map_append, List.map_append]
            rfl
        · rintro H1 ⟨s1, hl⟩
          have ez : z.cps.toList.take z.cps.size = z.cps.toList := List.take_of_length_le (by simp)
          rw [ez] at hl
          repeat walk_at "W"
          refine Wp.allL (SqL.of hl) ?_
          rw [List.all_map]
          exact q _ s1
    | _ =>
      refine Wp.isi1 (b := false) hd (by walk_at "KQ") ?_
      repeat walk_at "W"
      repeat walk_at "W"
      exact q _ (Same.refl _)
end
end K57
set_option Elab.async false
set_option linter.all false
set_option maxRecDepth 100000
namespace K57
open PySem PySem.Spec PyProof.Rows L2
open Wp (wo_lt wo_le wo_gt wo_ge wo_eq wo_ne wo_in wo_nin wo_add wo_mul op_shlB ws_any wc_int wc_isi u65)
abbrev s_initT : Stmt := inClass (topS 3) 0
abbrev s_initI : Stmt := inClass (topS 6) 0
theorem sc_initT : FnScope ["self", "thing"] ["self", "thing"] (defScope s_initT) := ⟨rfl, rfl, rfl, by decide +kernel, rfl, by decide +kernel, by decide +kernel⟩
theorem sc_initI : FnScope ["self", "place"] ["self", "place"] (defScope s_initI) := ⟨rfl, rfl, rfl, by decide +kernel, rfl, by decide +kernel, by decide +kernel⟩
abbrev s_checked_signs : Stmt := topS 21
abbrev N_checked_signs : List Str := ["thing", "before", "sign"]
theorem sc_checked_signs : FnScope N_checked_signs ["thing"] (defScope s_checked_signs) := ⟨rfl, rfl, rfl, by decide +kernel, rfl, by decide +kernel, by decide +kernel⟩
local macro_rules | `(tactic| walk_at "W") => `(tactic| first
  | (with_reducible first
    | refine Wp.seq ?_ | refine Wp.asg ?_ | refine Wp.ret ?_ | refine Wp.retN ?_ | refine Wp.drop ?_ | refine Wp.nxt ?_ | refine Wp.ifs ?_ | refine Wp.gname ?_
    | refine Wp.op ?_ | refine Wp.un ?_ | refine Wp.tst ?_ | refine Wp.tb' ?_ | refine Wp.tnot ?_ | refine Wp.tand ?_ | refine Wp.tor ?_ | refine Wp.tandV ?_ | refine Wp.torV ?_ | refine Wp.tnotV ?_ | refine Wp.tif ?_ | refine Wp.tchain ?_
    | refine Wp.cb ?_ | refine Wp.call ?_ | refine Wp.cons ?_ | refine Wp.nil ?_ | refine Wp.gsub ?_ | refine Wp.cst ?_ | refine Wp.i0 ?_ | refine Wp.int1 ?_ | refine Wp.eb ?_ | refine Wp.ei ?_
    | refine Wp.gnil ?_ | refine Wp.gcons ?_ | refine Wp.mko ?_ | refine Wp.bm ?_ | refine Wp.ienum ?_ | refine Wp.tru ?_ | refine Wp.u1 ?_ | refine Wp.for_ ?_ | refine Wp.lc ?_ | refine Wp.istr ?_ | refine Wp.ilist ?_ | refine Wp.itup ?_ | refine Wp.irng1 ?_ | refine Wp.irng2 ?_ | refine Wp.yes ?_ | refine Wp.es ?_ | refine Wp.er ?_ | refine Wp.sl ?_ | refine Wp.nopart ?_ | refine Wp.part ?_ | refine Wp.lst ?_ | refine Wp.tup ?_
    | refine Wp.din ?_ | refine Wp.dnotin ?_ | refine Wp.dget ?_ | refine Wp.dget2 ?_ | refine Wp.dput ?_ | refine Wp.dnewK ?_ | refine Wp.dnewT ?_ | refine Wp.bm0 ?_ | refine Wp.m1 ?_ | refine Wp.exs ?_ | refine Wp.is0 ?_ | refine Wp.isnot0 ?_ | refine Wp.fld ?_ | refine Wp.sfld ?_
    | refine Wp.par ?_ | refine Wp.parV ?_ | refine Wp.brk ?_ | refine Wp.aug ?_ | refine Wp.ipaI ?_ | refine Wp.ipsI ?_ | refine Bk.ienumS ?_ | refine Wp.make_ ?_ | refine Wp.itnn ?_ | refine Wp.ltI ?_ | refine Wp.leI ?_ | refine Wp.leS ?_ | refine Wp.inSg ?_ | refine Wp.gtI ?_ | refine Wp.geI ?_ | refine Wp.eqI ?_ | refine Wp.neI ?_ | refine Wp.addI ?_ | refine Wp.ltS ?_ | refine Wp.eqS ?_ | refine Wp.neS ?_)
  | ((with_reducible refine' Wp.var ?hv ?_); (case hv => exact rfl))
  | ((with_reducible refine' Wp.ixl ?hs ?he ?_); (case hs => first | exact SqL.of upd_same | exact SqL.of (by assumption) | assumption); (case he => exact rfl))
  | ((with_reducible refine' Wp.setl ?hs ?he ?_); (case hs => first | exact upd_same | assumption); (case he => exact rfl))
  | ((with_reducible refine' Wp.modP ?hs ?_); (case hs => first | decide | omega))
  | ((with_reducible refine' Wp.divN ?hs ?ht ?_); (case hs => first | decide | omega); (case ht => first | decide | omega))
  | ((with_reducible refine' Wp.mulM ?hs ?ht ?_); (case hs => decide); (case ht => decide))
  | ((with_reducible refine' Wp.mulL ?hs ?_); (case hs => omega))
  | ((with_reducible refine' Wp.mulR ?hs ?_); (case hs => omega))
  | ((with_reducible refine' Wp.powS ?hs ?_); (case hs => decide))
  | ((with_reducible refine' Wp.shr ?hs ?_); (case hs => decide))
  | ((with_reducible refine' Wp.szl ?hs ?_); (case hs => first | decide | (simp; done)))
  | ((with_reducible refine' Wp.lenL ?hs ?_); (case hs => first | exact SqL.of upd_same | exact SqL.of (by assumption) | assumption))
  | ((with_reducible refine' Wp.lenT ?hs ?_); (case hs => first | exact SqT.of upd_same | exact SqT.of (by assumption) | assumption))
  | ((with_reducible refine' Wp.iteC ?hs ?_); (case hs => exact rfl)) | ((with_reducible refine' Wp.iteD ?hs ?_); (case hs => exact Bool.false_ne_true))
  | ((with_reducible refine' Wp.wp ?hs ?_); (case hs => rfl))
  | (with_reducible first | refine Wp.abs ?_ | refine Wp.max2 ?_ | refine Wp.min2 ?_)
  | ((with_reducible refine' Wp.sll ?hs ?_); (case hs => first | exact SqL.of upd_same | exact SqL.of (by assumption) | assumption)))
local macro_rules | `(tactic| walk_at "KQ") => `(tactic| first
  | exact Wp.kq "int" rfl (by decide +kernel) | exact Wp.kq "bool" rfl (by decide +kernel) | exact Wp.kq "str" rfl (by decide +kernel) | exact Wp.kq "list" rfl (by decide +kernel)
  | exact Wp.kq "tuple" rfl (by decide +kernel) | exact Wp.kq "NoneType" rfl (by decide +kernel) | exact Wp.kq "dict" rfl (by decide +kernel))

section
variable {P : Program} {w : World} {K : PySem.W.Frag} {mg : Str → Option Value} {base : Heap}
theorem ok_initT {f : Addr} {fd : FuncData} (F : Fun K "__init__" "WrongThing.__init__" s_initT f fd) : FnOk P w K mg base CX0 1 f fd ["self", "thing"] (Wp.spInit K "thing") := by
  refine F.ok sc_initT (fun vs H Q E h => ?_) (fun cdv A outer s H vs Q E hr h => ?_)
  · obtain ⟨a, C, y, rfl, _⟩ := h
    rfl
  · obtain ⟨a, C, y, rfl, hO, hno, ha, q⟩ := h
    refine ⟨_, pss_one (ps_ost (pv 0) (pv 1)), ?_⟩
    exact ⟨y, rfl, .ref a, rfl, a, C, rfl, hO, hno, .inl ⟨ha, fun dx hdx hne => q dx hdx hne⟩⟩
theorem ok_initI {f : Addr} {fd : FuncData} (F : Fun K "__init__" "WrongItem.__init__" s_initI f fd) : FnOk P w K mg base CX0 1 f fd ["self", "place"] (Wp.spInit K "place") := by
  refine F.ok sc_initI (fun vs H Q E h => ?_) (fun cdv A outer s H vs Q E hr h => ?_)
  · obtain ⟨a, C, y, rfl, _⟩ := h
    rfl
  · obtain ⟨a, C, y, rfl, hO, hno, ha, q⟩ := h
    refine ⟨_, pss_one (ps_ost (pv 0) (pv 1)), ?_⟩
    exact ⟨y, rfl, .ref a, rfl, a, C, rfl, hO, hno, .inl ⟨ha, fun dx hdx hne => q dx hdx hne⟩⟩
def leS (i j : Str) : Bool := !decide (j.cps.toList < i.cps.toList)
def badSign (b : Str) (c : Nat) : Bool := !(leS "a" ⟨#[c]⟩ && leS ⟨#[c]⟩ "z") || leS ⟨#[c]⟩ b
def sgOk : Str → List Nat → Bool
  | _, [] => true
  | b, c :: r => !badSign b c && sgOk ⟨#[c]⟩ r
def goodSigns : PyData → Bool
  | .str z => (decide (1 ≤ (z.length : Int)) && decide ((z.length : Int) ≤ 8)) && sgOk "" z.cps.toList
  | _ => false
def spSigned (K : PySem.W.Frag) (C : Addr) : Sp := fun vs H Q E => ∃ v d, vs = [v] ∧ Dp K H v d ∧ (∀ z, d = .str z → z.length ≤ 16777216) ∧ (goodSigns d = true → Q v H) ∧
  (goodSigns d = false → ∀ dd H', H dd = none → Same H H' → H' dd = some (.xd [("thing", v)]) → E (.ref C) (some dd) H')
theorem ok_signed (B : Wp.Blt mg) {f C fI : Addr} {fd fdI : FuncData} (F : Fun K "checked_signs" "checked_signs" s_checked_signs f fd) (T_BadSigns : Wp.ExT K mg "BadSigns" C fI "thing") (c_MOST_SIGNS : ∃ t, mg "MOST_SIGNS" = some (.int 8 t))
    (G_BadSigns : FnOk P w K mg base CX0 1 fI fdI ["self", "thing"] (Wp.spInit K "thing")) (b_BadSigns : Binds K fdI ["self", "thing"] []) : FnOk P w K mg base (L2.CX P w) 3 f fd ["thing"] (spSigned K C) := by
  obtain ⟨tk, c_MOST_SIGNS⟩ := c_MOST_SIGNS
  refine F.okX sc_checked_signs (fun vs H Q E h => ?_) (fun cdv A outer s H vs Q E hr h => ?_)
  · obtain ⟨v, d, rfl, _⟩ := h
    rfl
  · obtain ⟨v, d, rfl, hd, hz, qr, qe⟩ := h
    refine ⟨_, (pss_cons (ps_if (PW.pt (pw_or (pt_not (pt_val (pe_callB (wc_isi (K := K)) (by rfl) B.isinstance (by decide +kernel) (pa_cons (pv 0) (pa_cons (pe_bltn (v := .ty "str") (by rfl) B.str (by decide +kernel) rfl) pa_nil))))) (pw_or1 (pt_not (pt_chain (wo_le (K := K) hr.units) (wo_le (K := K) hr.units) pe_int (pe_callB (Wp.wc_len (K := K)) (by rfl) B.len (by decide +kernel) (pa_cons (pv 0) pa_nil)) (pe_glob (v := .int 8) (by rfl) c_MOST_SIGNS ⟨_, rfl⟩)))))) (pss_one (ps_raise rfl (takes_of rfl rfl rfl rfl) (pmk_oex T_BadSigns.O T_BadSigns.iC T_BadSigns.tI G_BadSigns (hr.mono (by decide)) b_BadSigns .nil pass0 (by rfl) T_BadSigns.g (pa_cons (pv 0) pa_nil)))) pss_nil)
  (pss_cons (ps_set (i := 1) sc_checked_signs.nd rfl (by first | exact .inl rfl | exact .inr rfl) pe_str)
  (pss_cons (ps_for (passes_of rfl) rfl (pi_str (pv 0)) (pg_name (i := 2) sc_checked_signs.nd rfl (by first | exact .inl rfl | exact .inr rfl)) (pss_cons (ps_if (PW.pt (pw_or (pt_not (pt_chain (wo_le (K := K) hr.units) (wo_le (K := K) hr.units) pe_str (pv 2) pe_str)) (pw_or1 (pt_cmpR (wo_le (K := K) hr.units) (pv 2) (pv 1) (nomark _))))) (pss_one (ps_raise rfl (takes_of rfl rfl rfl rfl) (pmk_oex T_BadSigns.O T_BadSigns.iC T_BadSigns.tI G_BadSigns (hr.mono (by decide)) b_BadSigns .nil pass0 (by rfl) T_BadSigns.g (pa_cons (pv 0) pa_nil)))) pss_nil)
  (pss_one (ps_set (i := 1) sc_checked_signs.nd rfl (by first | exact .inl rfl | exact .inr rfl) (pv 2)))))
  (pss_one (ps_ret (pv 0)))))), ?_⟩
    refine Wp.st (σ' := [some v, none, none]) rfl ?_
    repeat walk_at "W"
    have bad : goodSigns d = false → Wp.MkI C (Wp.spInit K "thing") [] (fun cls d H' => E cls d H') [v] H := fun hb => Wp.mki T_BadSigns (qe hb)
    cases d with
    | str z =>
      cases hd
      refine Wp.isi1 (b := true) (.str z) (by walk_at "KQ") ?_
      repeat walk_at "W"
      refine Wp.lenS (hz z rfl) ?_
      repeat walk_at "W"
      refine Wp.itd (fun h1 => ?_) (fun h1 => ?_)
      rotate_left
      · repeat walk_at "W"
        refine bad ?_
        show ((decide (1 ≤ (z.length : Int)) && _) && _) = false
        rw [decide_eq_false h1]; rfl
      · repeat walk_at "W"
        refine Wp.itnb (fun h2 => ?_) (fun h2 => ?_)
        · repeat walk_at "W"
          refine bad ?_
          show ((_ && decide ((z.length : Int) ≤ 8)) && _) = false
          rw [h2, Bool.and_false]; rfl
        · repeat walk_at "W"
          have hg : goodSigns (.str z) = sgOk "" z.cps.toList := by
            show ((decide (1 ≤ (z.length : Int)) && decide ((z.length : Int) ≤ 8)) && _) = _
            rw [decide_eq_true h1, h2]; rfl
          refine Wp.forIt walk_str (fun i σ1 H1 => ∃ (b : Str) (x : Option V), σ1 = [some (.str z), some (.str b), x] ∧ H1 = H ∧ sgOk "" z.cps.toList = sgOk b (z.cps.toList.drop i)) ⟨_, _, rfl, rfl, rfl⟩ (fun _ _ _ _ _ => trivial) ?_ ?_
          · rintro i x σ1 H1 H' hi ⟨b, x0, rfl, rfl, he⟩ ⟨rfl, c, hc, rfl⟩
            have hc' : z.cps.toList[i]? = some c := by rw [Array.getElem?_toList]; exact hc
            have hd1 : z.cps.toList.drop i = c :: z.cps.toList.drop (i + 1) := by
              obtain ⟨hl, hx⟩ := List.getElem?_eq_some_iff.mp hc'
              rw [List.drop_eq_getElem_cons hl, hx]
            rw [hd1] at he
            have isbad : badSign b c = true → goodSigns (.str z) = false := fun hb => by
              rw [hg, he]
              show (!badSign b c && _) = false
              rw [hb]; rfl
            repeat walk_at "W"
            refine Wp.itb (fun e1 => ?_) (fun e1 => ?_)
            · repeat walk_at "W"
              refine Wp.itnb (fun e2 => ?_) (fun e2 => ?_)
              · repeat walk_at "W"
                refine bad (isbad ?_)
                show (!(leS "a" ⟨#[c]⟩ && leS ⟨#[c]⟩ "z") || _) = true
                rw [show leS ⟨#[c]⟩ "z" = false from e2, Bool.and_false]; rfl
              · repeat walk_at "W"
                refine Wp.itb (fun e3 => ?_) (fun e3 => ?_)
                · repeat walk_at "W"
                  refine bad (isbad ?_)
                  show (_ || leS ⟨#[c]⟩ b) = true
                  rw [show leS ⟨#[c]⟩ b = true from e3, Bool.or_true]
                · repeat walk_at "W"
                  refine ⟨_, _, rfl, rfl, he.trans ?_⟩
                  show (!(!(leS "a" ⟨#[c]⟩ && leS ⟨#[c]⟩ "z") || leS ⟨#[c]⟩ b) && _) = _
                  rw [show leS "a" ⟨#[c]⟩ = true from e1, show leS ⟨#[c]⟩ "z" = true from e2, show leS ⟨#[c]⟩ b = false from e3]; rfl
            · repeat walk_at "W"
              refine bad (isbad ?_)
              show (!(leS "a" ⟨#[c]⟩ && leS ⟨#[c]⟩ "z") || _) = true
              rw [show leS "a" ⟨#[c]⟩ = false from e1]; rfl
          · rintro σ1 H1 ⟨b, x0, rfl, rfl, he⟩
            repeat walk_at "W"
            refine qr ?_
            rw [hg, he, List.drop_of_length_le (by simp)]
            rfl
    | _ =>
      refine Wp.isi1 (b := false) hd (by walk_at "KQ") ?_
      repeat walk_at "W"
      exact bad rfl
end
end K57
set_option Elab.async false
set_option linter.all false
set_option maxRecDepth 100000
set_option maxHeartbeats 8000000
namespace K57
open PySem PySem.Spec PyProof.Rows L2 Bk
open Wp (wo_lt wo_le wo_gt wo_ge wo_eq wo_ne wo_in wo_nin wo_add wo_mul op_shlB ws_any wc_int wc_isi u65)
abbrev s_checked_text : Stmt := topS 22
abbrev N_checked_text : List Str := ["signs", "thing"]
theorem sc_checked_text : FnScope N_checked_text ["signs", "thing"] (defScope s_checked_text) := ⟨rfl, rfl, rfl, by decide +kernel, rfl, by decide +kernel, by decide +kernel⟩
abbrev s_is_rule : Stmt := topS 23
abbrev N_is_rule : List Str := ["signs", "thing", "left", "right"]
theorem sc_is_rule : FnScope N_is_rule ["signs", "thing"] (defScope s_is_rule) := ⟨rfl, rfl, rfl, by decide +kernel, rfl, by decide +kernel, by decide +kernel⟩
abbrev s_rules_of : Stmt := topS 24
abbrev N_rules_of : List Str := ["signs", "things", "seen", "place", "thing"]
theorem sc_rules_of : FnScope N_rules_of ["signs", "things"] (defScope s_rules_of) := ⟨rfl, rfl, rfl, by decide +kernel, rfl, by decide +kernel, by decide +kernel⟩
local macro_rules | `(tactic| walk_at "W") => `(tactic| first
  | (with_reducible first
    | refine Wp.seq ?_ | refine Wp.asg ?_ | refine Wp.ret ?_ | refine Wp.retN ?_ | refine Wp.drop ?_ | refine Wp.nxt ?_ | refine Wp.ifs ?_ | refine Wp.gname ?_
    | refine Wp.op ?_ | refine Wp.un ?_ | refine Wp.tst ?_ | refine Wp.tb' ?_ | refine Wp.tnot ?_ | refine Wp.tand ?_ | refine Wp.tor ?_ | refine Wp.tandV ?_ | refine Wp.torV ?_ | refine Wp.tnotV ?_ | refine Wp.tif ?_ | refine Wp.tchain ?_
    | refine Wp.cb ?_ | refine Wp.call ?_ | refine Wp.cons ?_ | refine Wp.nil ?_ | refine Wp.gsub ?_ | refine Wp.cst ?_ | refine Wp.i0 ?_ | refine Wp.int1 ?_ | refine Wp.eb ?_ | refine Wp.ei ?_
    | refine Wp.gnil ?_ | refine Wp.gcons ?_ | refine Wp.mko ?_ | refine Wp.bm ?_ | refine Wp.ienum ?_ | refine Wp.tru ?_ | refine Wp.u1 ?_ | refine Wp.for_ ?_ | refine Wp.lc ?_ | refine Wp.istr ?_ | refine Wp.ilist ?_ | refine Wp.itup ?_ | refine Wp.irng1 ?_ | refine Wp.irng2 ?_ | refine Wp.yes ?_ | refine Wp.es ?_ | refine Wp.er ?_ | refine Wp.sl ?_ | refine Wp.nopart ?_ | refine Wp.part ?_ | refine Wp.lst ?_ | refine Wp.tup ?_
    | refine Wp.din ?_ | refine Wp.dnotin ?_ | refine Wp.dget ?_ | refine Wp.dget2 ?_ | refine Wp.dput ?_ | refine Wp.dnewK ?_ | refine Wp.dnewT ?_ | refine Wp.bm0 ?_ | refine Wp.m1 ?_ | refine Wp.exs ?_ | refine Wp.is0 ?_ | refine Wp.isnot0 ?_ | refine Wp.fld ?_ | refine Wp.sfld ?_
    | refine Wp.par ?_ | refine Wp.parV ?_ | refine Wp.brk ?_ | refine Wp.aug ?_ | refine Wp.ipaI ?_ | refine Wp.ipsI ?_ | refine Bk.ienumS ?_ | refine Wp.make_ ?_ | refine Wp.itnn ?_ | refine Wp.ltI ?_ | refine Wp.leI ?_ | refine Wp.leS ?_ | refine Wp.inSg ?_ | refine Wp.gtI ?_ | refine Wp.geI ?_ | refine Wp.eqI ?_ | refine Wp.neI ?_ | refine Wp.addI ?_ | refine Wp.ltS ?_ | refine Wp.eqS ?_ | refine Wp.neS ?_)
  | ((with_reducible refine' Wp.var ?hv ?_); (case hv => exact rfl))
  | ((with_reducible refine' Wp.ixl ?hs ?he ?_); (case hs => first | exact SqL.of upd_same | exact SqL.of (by assumption) | assumption); (case he => exact rfl))
  | ((with_reducible refine' Wp.setl ?hs ?he ?_); (case hs => first | exact upd_same | assumption); (case he => exact rfl))
  | ((with_reducible refine' Wp.modP ?hs ?_); (case hs => first | decide | omega))
  | ((with_reducible refine' Wp.divN ?hs ?ht ?_); (case hs => first | decide | omega); (case ht => first | decide | omega))
  | ((with_reducible refine' Wp.mulM ?hs ?ht ?_); (case hs => decide); (case ht => decide))
  | ((with_reducible refine' Wp.mulL ?hs ?_); (case hs => omega))
  | ((with_reducible refine' Wp.mulR ?hs ?_); (case hs => omega))
  | ((with_reducible refine' Wp.powS ?hs ?_); (case hs => decide))
  | ((with_reducible refine' Wp.shr ?hs ?_); (case hs => decide))
  | ((with_reducible refine' Wp.szl ?hs ?_); (case hs => first | decide | (simp; done)))
  | ((with_reducible refine' Wp.lenL ?hs ?_); (case hs => first | exact SqL.of upd_same | exact SqL.of (by assumption) | assumption))
  | ((with_reducible refine' Wp.lenT ?hs ?_); (case hs => first | exact SqT.of upd_same | exact SqT.of (by assumption) | assumption))
  | ((with_reducible refine' Wp.iteC ?hs ?_); (case hs => exact rfl)) | ((with_reducible refine' Wp.iteD ?hs ?_); (case hs => exact Bool.false_ne_true))
  | ((with_reducible refine' Wp.wp ?hs ?_); (case hs => rfl))
  | (with_reducible first | refine Wp.abs ?_ | refine Wp.max2 ?_ | refine Wp.min2 ?_)
  | ((with_reducible refine' Wp.sll ?hs ?_); (case hs => first | exact SqL.of upd_same | exact SqL.of (by assumption) | assumption)))
local macro_rules | `(tactic| walk_at "KQ") => `(tactic| first
  | exact Wp.kq "int" rfl (by decide +kernel) | exact Wp.kq "bool" rfl (by decide +kernel) | exact Wp.kq "str" rfl (by decide +kernel) | exact Wp.kq "list" rfl (by decide +kernel)
  | exact Wp.kq "tuple" rfl (by decide +kernel) | exact Wp.kq "NoneType" rfl (by decide +kernel) | exact Wp.kq "dict" rfl (by decide +kernel))

def strLen : PyData → Int
  | .str z => z.length
  | _ => 0
def isRule (sg : Str) (d : PyData) : Bool := match Wp.row d with
  | some [a, b] => (Wp.isText sg 4 a && Wp.isText sg 1 b) && decide (strLen b < strLen a)
  | _ => false
def ruleOf (d : PyData) : Option (Str × Str) := match Wp.row d with
  | some [.str l, .str r] => some (l, r)
  | _ => none
theorem isText_str {sg : Str} {n : Int} {d : PyData} (h : Wp.isText sg n d = true) : ∃ z, d = .str z := by
  cases d with
  | str z => exact ⟨z, rfl⟩
  | _ => cases h
theorem two {α : Type} : ∀ {ys : List α}, ys.length = 2 → ∃ a b, ys = [a, b]
  | [a, b], _ => ⟨a, b, rfl⟩
  | [], h => by cases h
  | [_], h => by cases h
  | _ :: _ :: _ :: _, h => by simp at h
theorem isText_iff {sg z : Str} {n : Int} : Wp.isText sg n (.str z) = true ↔ (z.length : Int) ≤ n ∧ ∀ c ∈ z.cps.toList, c ∈ sg.cps.toList := by
  show (decide ((z.length : Int) ≤ n) && z.cps.toList.all fun c => decide (c ∈ sg.cps.toList)) = true ↔ _
  rw [Bool.and_eq_true, decide_eq_true_iff, List.all_eq_true]
  exact ⟨fun h => ⟨h.1, fun c hc => of_decide_eq_true (h.2 c hc)⟩, fun h => ⟨h.1, fun c hc => decide_eq_true (h.2 c hc)⟩⟩
theorem isRule_of {sg : Str} {d : PyData} (h : isRule sg d = true) : ∃ l r, ruleOf d = some (l, r) ∧ Wp.row d = some [.str l, .str r] ∧ RuleOk sg l r := by
  unfold isRule at h
  split at h
  · rename_i a b e
    rw [Bool.and_eq_true, Bool.and_eq_true] at h
    obtain ⟨⟨h1, h2⟩, h3⟩ := h
    obtain ⟨l, rfl⟩ := isText_str h1
    obtain ⟨r, rfl⟩ := isText_str h2
    obtain ⟨a1, a2⟩ := isText_iff.mp h1
    obtain ⟨b1, b2⟩ := isText_iff.mp h2
    have h4 : (r.length : Int) < l.length := of_decide_eq_true h3
    exact ⟨l, r, by unfold ruleOf; rw [e], e, by omega, by omega, by omega, a2, b2⟩
  · cases h
theorem isRule_ok {sg l r : Str} {d : PyData} (e : Wp.row d = some [.str l, .str r]) (h : RuleOk sg l r) : isRule sg d = true := by
  unfold isRule
  rw [e]
  show ((Wp.isText sg 4 (.str l) && Wp.isText sg 1 (.str r)) && decide ((r.length : Int) < l.length)) = true
  rw [isText_iff.mpr ⟨by have := h.l4; omega, h.lc⟩, isText_iff.mpr ⟨by have := h.r1; omega, h.rc⟩, decide_eq_true (by have := h.lt; omega)]; rfl
section
variable {P : Program} {w : World} {K : PySem.W.Frag} {mg : Str → Option Value} {base : Heap}
def spCText (K : PySem.W.Frag) (C : Addr) : Sp := fun vs H Q E => ∃ sg v d, vs = [.str sg, v] ∧ Dp K H v d ∧ (∀ z, d = .str z → z.length ≤ 16777216) ∧ (Wp.isText sg 200 d = true → ∀ H', Same H H' → Q v H') ∧
  (Wp.isText sg 200 d = false → ∀ dd H', H dd = none → Same H H' → H' dd = some (.xd [("thing", v)]) → E (.ref C) (some dd) H')
theorem ok_ctext (B : Wp.Blt mg) {f fT C fI : Addr} {fd fdT fdI : FuncData} (F : Fun K "checked_text" "checked_text" s_checked_text f fd) (c_LONGEST_TEXT : ∃ t, mg "LONGEST_TEXT" = some (.int 200 t))
    (D_is_text : Wp.Dh K mg "is_text" fT fdT ["signs", "thing", "most"]) (G_is_text : FnOk P w K mg base CX0 1 fT fdT ["signs", "thing", "most"] (spText K))
    (T_BadText : Wp.ExT K mg "BadText" C fI "thing") (G_BadText : FnOk P w K mg base CX0 1 fI fdI ["self", "thing"] (Wp.spInit K "thing")) (b_BadText : Binds K fdI ["self", "thing"] []) : FnOk P w K mg base (L2.CX P w) 3 f fd ["signs", "thing"] (spCText K C) := by
  obtain ⟨tk, c_LONGEST_TEXT⟩ := c_LONGEST_TEXT
  refine F.okX sc_checked_text (fun vs H Q E h => ?_) (fun cdv A outer s H vs Q E hr h => ?_)
  · obtain ⟨sg, v, d, rfl, _⟩ := h
    rfl
  · obtain ⟨sg, v, d, rfl, hd, hz, qr, qe⟩ := h
    refine ⟨_, (pss_cons (ps_if (pt_not (pt_val (pe_call G_is_text (hr.mono (by decide)) (by rfl) D_is_text.g D_is_text.k D_is_text.b .nil pass0 (pa_cons (pv 0) (pa_cons (pv 1) (pa_cons (pe_glob (v := .int 200) (by rfl) c_LONGEST_TEXT ⟨_, rfl⟩) pa_nil)))))) (pss_one (ps_raise rfl (takes_of rfl rfl rfl rfl) (pmk_oex T_BadText.O T_BadText.iC T_BadText.tI G_BadText (hr.mono (by decide)) b_BadText .nil pass0 (by rfl) T_BadText.g (pa_cons (pv 1) pa_nil)))) pss_nil)
  (pss_one (ps_ret (pv 1)))), ?_⟩
    refine Wp.st (σ' := [some (.str sg), some v]) rfl ?_
    repeat walk_at "W"
    refine ⟨sg, v, d, 200, rfl, hd, by omega, by omega, hz, fun H' s1 => ?_⟩
    repeat walk_at "W"
    refine Wp.itnb (fun e1 => ?_) (fun e1 => ?_)
    · repeat walk_at "W"
      exact Wp.mki T_BadText fun dd H'' h1 h2 h3 => qe e1 dd H'' (s1.free h1) (s1.trans h2) h3
    · repeat walk_at "W"
      exact qr e1 _ s1
def spRule (K : PySem.W.Frag) : Sp := fun vs H Q _ => ∃ sg v d, vs = [.str sg, v] ∧ Dp K H v d ∧ Wp.sm d = true ∧ ∀ H', Same H H' → Q (.bl (isRule sg d)) H'
theorem ok_rule (B : Wp.Blt mg) {f fR fT : Addr} {fd fdR fdT : FuncData} (F : Fun K "is_rule" "is_rule" s_is_rule f fd) (c_LONGEST_LEFT : ∃ t, mg "LONGEST_LEFT" = some (.int 4 t)) (c_LONGEST_RIGHT : ∃ t, mg "LONGEST_RIGHT" = some (.int 1 t))
    (D_is_row : Wp.Dh K mg "is_row" fR fdR ["thing"]) (G_is_row : FnOk P w K mg base CX0 1 fR fdR ["thing"] (spRow K))
    (D_is_text : Wp.Dh K mg "is_text" fT fdT ["signs", "thing", "most"]) (G_is_text : FnOk P w K mg base CX0 1 fT fdT ["signs", "thing", "most"] (spText K)) : FnOk P w K mg base CX0 2 f fd ["signs", "thing"] (spRule K) := by
  obtain ⟨tk1, c_LONGEST_LEFT⟩ := c_LONGEST_LEFT
  obtain ⟨tk2, c_LONGEST_RIGHT⟩ := c_LONGEST_RIGHT
  refine F.ok sc_is_rule (fun vs H Q E h => ?_) (fun cdv A outer s H vs Q E hr h => ?_)
  · obtain ⟨sg, v, d, rfl, _⟩ := h
    rfl
  · obtain ⟨sg, v, d, rfl, hd, hsm, q⟩ := h
    refine ⟨_, (pss_cons (ps_if (PW.pt (pw_or (pt_not (pt_val (pe_call G_is_row (hr.mono (by decide)) (by rfl) D_is_row.g D_is_row.k D_is_row.b .nil pass0 (pa_cons (pv 1) pa_nil)))) (pw_or1 (pt_cmpR (wo_ne (K := K) hr.units) (pe_callB (Wp.wc_len (K := K)) (by rfl) B.len (by decide +kernel) (pa_cons (pv 1) pa_nil)) pe_int (nomark _))))) (pss_one (ps_ret pe_bl)) pss_nil)
  (pss_cons (ps_asg (pv 1) (Wp.wg_tup (K := K) (n := 2) rfl (pgs_cons (pg_name (i := 2) sc_is_rule.nd rfl (by first | exact .inl rfl | exact .inr rfl)) (pgs_cons (pg_name (i := 3) sc_is_rule.nd rfl (by first | exact .inl rfl | exact .inr rfl)) pgs_nil))))
  (pss_cons (ps_if (PW.pt (pw_or (pt_not (pt_val (pe_call G_is_text (hr.mono (by decide)) (by rfl) D_is_text.g D_is_text.k D_is_text.b .nil pass0 (pa_cons (pv 0) (pa_cons (pv 2) (pa_cons (pe_glob (v := .int 4) (by rfl) c_LONGEST_LEFT ⟨_, rfl⟩) pa_nil)))))) (pw_or1 (pt_not (pt_val (pe_call G_is_text (hr.mono (by decide)) (by rfl) D_is_text.g D_is_text.k D_is_text.b .nil pass0 (pa_cons (pv 0) (pa_cons (pv 3) (pa_cons (pe_glob (v := .int 1) (by rfl) c_LONGEST_RIGHT ⟨_, rfl⟩) pa_nil))))))))) (pss_one (ps_ret pe_bl)) pss_nil)
  (pss_one (ps_ret (pe_cmpR wo_lt (pe_callB (Wp.wc_len (K := K)) (by rfl) B.len (by decide +kernel) (pa_cons (pv 3) pa_nil)) (pe_callB (Wp.wc_len (K := K)) (by rfl) B.len (by decide +kernel) (pa_cons (pv 2) pa_nil)) (nomark _))))))), ?_⟩
    refine Wp.st (σ' := [some (.str sg), some v, none, none]) rfl ?_
    have no : ∀ {H'}, Same H H' → isRule sg d = false → Q (.bl false) H' := fun s1 e => by rw [← e]; exact q _ s1
    repeat walk_at "W"
    refine ⟨v, d, rfl, hd, fun H1 s1 => ?_⟩
    repeat walk_at "W"
    cases hrow : Wp.row d with
    | none =>
      repeat walk_at "W"
      exact no s1 (by unfold isRule; rw [hrow])
    | some xs =>
      obtain ⟨p, ys, rfl, hsq, hal⟩ := Wp.dp_row (Wp.dp_same s1 d _ hd) hrow
      have hsA := Wp.sm_row hsm hrow
      have hll := Wp.dps_len hal
      repeat walk_at "W"
      refine Wp.lenU hsq ?_
      repeat walk_at "W"
      refine Wp.itn (fun h3 => ?_) (fun h3 => ?_)
      · repeat walk_at "W"
        refine no s1 ?_
        unfold isRule; rw [hrow]
        match xs, hll with
        | [], _ => rfl
        | [_], _ => rfl
        | [_, _], hll => exact absurd (by rw [hll]; rfl) h3
        | _ :: _ :: _ :: _, _ => rfl
      · have h2 : ys.length = 2 := by omega
        obtain ⟨a, b, rfl⟩ := two h2
        cases hal with
        | cons d1 hal =>
        rename_i da r1
        cases hal with
        | cons d2 hal =>
        rename_i db r2
        cases hal
        simp only [Wp.smA, Bool.and_eq_true] at hsA
        repeat walk_at "W"
        refine Wp.gU hsq rfl ?_
        repeat walk_at "W"
        refine ⟨sg, a, da, 4, rfl, d1, by omega, by omega, Wp.sm_str hsA.1, fun H2 s2 => ?_⟩
        repeat walk_at "W"
        refine Wp.itnb (fun e1 => ?_) (fun e1 => ?_)
        · repeat walk_at "W"
          refine no (s1.trans s2) ?_
          unfold isRule; rw [hrow]
          show ((Wp.isText sg 4 da && _) && _) = false
          rw [e1]; rfl
        repeat walk_at "W"
        refine ⟨sg, b, db, 1, rfl, Wp.dp_same s2 _ _ d2, by omega, by omega, Wp.sm_str hsA.2.1, fun H3 s3 => ?_⟩
        repeat walk_at "W"
        refine Wp.itnb (fun e2 => ?_) (fun e2 => ?_)
        · repeat walk_at "W"
          refine no ((s1.trans s2).trans s3) ?_
          unfold isRule; rw [hrow]
          show ((_ && Wp.isText sg 1 db) && _) = false
          rw [e2, Bool.and_false]; rfl
        obtain ⟨l, rfl⟩ := isText_str e1
        obtain ⟨r, rfl⟩ := isText_str e2
        cases d1; cases d2
        repeat walk_at "W"
        have a1 := (isText_iff.mp e1).1
        have a2 := (isText_iff.mp e2).1
        refine Wp.lenS (Nat.le_of_lt (small1000 (by omega))) ?_
        repeat walk_at "W"
        refine Wp.lenS (Nat.le_of_lt (small1000 (by omega))) ?_
        repeat walk_at "W"
        have e3 : isRule sg d = decide ((r.length : Int) < l.length) := by
          unfold isRule; rw [hrow]
          show ((Wp.isText sg 4 (.str l) && Wp.isText sg 1 (.str r)) && decide ((r.length : Int) < l.length)) = _
          rw [e1, e2]; rfl
        have := q _ ((s1.trans s2).trans s3)
        rw [e3] at this
        exact this
abbrev keyR (p : Str × Str) : List Key := [Sum.inr p.1, Sum.inr p.2]
abbrev entR (p : Str × Str) : List Key × V := (keyR p, .bl true)
theorem keyR_inj {p q : Str × Str} (h : keyR p = keyR q) : p = q := by
  obtain ⟨a, b⟩ := p
  obtain ⟨c, d⟩ := q
  have h1 := (List.cons.inj h).1
  have h2 := (List.cons.inj (List.cons.inj h).2).1
  cases h1; cases h2; rfl
theorem valV_ent (q : Str × Str) : ∀ ps : List (Str × Str), (valV (ps.map entR) (keyR q)).isSome = decide (q ∈ ps)
  | [] => rfl
  | p :: ps => by
    rw [List.map_cons]
    by_cases h : p = q
    · subst h
      rw [valV_pos (by rfl)]; simp
    · rw [valV_neg (fun z => h (keyR_inj z)), valV_ent q ps]
      exact decide_eq_decide.mpr ⟨fun z => List.mem_cons_of_mem _ z, fun z => (List.mem_cons.mp z).resolve_left (fun e => h e.symm)⟩
theorem rulesAt_keys {H : Hp} : ∀ {ps : List (Str × Str)} {bs : List Addr}, IsKeys H (ps.map entR) bs → RulesAt H bs ps
  | [], _, h => by cases h; trivial
  | p :: ps, _, h => by
    cases h with
    | cons h1 h2 => exact ⟨h1, rulesAt_keys h2⟩
def rulesGo (sg : Str) : List (Str × Str) → List PyData → Nat → Except Nat (List (Str × Str))
  | ps, [], _ => .ok ps
  | ps, d :: r, i => if isRule sg d = false then .error i else match ruleOf d with
    | some q => if q ∈ ps then .error i else rulesGo sg (ps ++ [q]) r (i + 1)
    | none => .error i
def rulesOf (sg : Str) (d : PyData) : Except Int (List (Str × Str)) := match Wp.row d with
  | none => .error (-1)
  | some ds => if 64 < ds.length then .error (-1) else match rulesGo sg [] ds 0 with
    | .error i => .error (i : Nat)
    | .ok ps => .ok ps
/-- rules that are tuples are tracked -/
def Trk (K : PySem.W.Frag) (H : Hp) (v : V) (d : PyData) : Prop := ∀ ds, Wp.row d = some ds → ∃ p ws, v = .ref p ∧ (SqL K H p ws ∨ SqT K H p ws) ∧ DpAll K H ws ds ∧ ∀ (i : Nat) l r, ds[i]? = some (.tuple [.str l, .str r]) → ∃ b, ws[i]? = some (.ref b) ∧ H b = some (.tup [.str l, .str r])
section
variable {K : PySem.W.Frag} {H H' : Hp} {a C dx : Addr} {fs : List (Str × V)}
theorem sql_ins {b : Addr} {xs : List V} (h : H a = some (.ins C dx fs)) (k : Wp.Keep a H H') (s : SqL K H b xs) : SqL K H' b xs := by
  rcases s with (s | ⟨u, s⟩) | s
  · exact .inl (.inl (k _ _ (ne_of s h (by intro z; cases z)) s))
  · exact .inl (.inr ⟨u, k _ _ (ne_of s h (by intro z; cases z)) s⟩)
  · exact .inr s
theorem sqt_ins {b : Addr} {xs : List V} (h : H a = some (.ins C dx fs)) (k : Wp.Keep a H H') (s : SqT K H b xs) : SqT K H' b xs := by
  rcases s with (s | ⟨u, s⟩) | s
  · exact .inl (.inl (k _ _ (ne_of s h (by intro z; cases z)) s))
  · exact .inl (.inr ⟨u, k _ _ (ne_of s h (by intro z; cases z)) s⟩)
  · exact .inr s
mutual
theorem dp_ins (h : H a = some (.ins C dx fs)) (k : Wp.Keep a H H') : ∀ (d : PyData) (v : V), Dp K H v d → Dp K H' v d
  | .none, _, q => by cases q; exact .non
  | .bool b, _, q => by cases q; exact .bl b
  | .int i, _, q => by cases q; exact .int i
  | .str x, _, q => by cases q; exact .str x
  | .list ds, _, q => by
    cases q with
    | lst hs ha => exact .lst (sql_ins h k hs) (dps_ins h k ds _ ha)
  | .tuple ds, _, q => by
    cases q with
    | tup hs ha => exact .tup (sqt_ins h k hs) (dps_ins h k ds _ ha)
  | .dict _, _, q => by cases q
theorem dps_ins (h : H a = some (.ins C dx fs)) (k : Wp.Keep a H H') : ∀ (ds : List PyData) (vs : List V), DpAll K H vs ds → DpAll K H' vs ds
  | [], _, q => by cases q; exact .nil
  | d :: ds, _, q => by
    cases q with
    | cons h1 h2 => exact .cons (dp_ins h k d _ h1) (dps_ins h k ds _ h2)
end
theorem trk_ins {v : V} {d : PyData} (h : H a = some (.ins C dx fs)) (k : Wp.Keep a H H') (t : Trk K H v d) : Trk K H' v d := fun ds e => by
  obtain ⟨p, ws, h1, h2, h3, h4⟩ := t ds e
  refine ⟨p, ws, h1, h2.elim (fun s => .inl (sql_ins h k s)) (fun s => .inr (sqt_ins h k s)), dps_ins h k _ _ h3, fun i l r e => ?_⟩
  obtain ⟨b, b1, b2⟩ := h4 i l r e
  exact ⟨b, b1, k _ _ (ne_of b2 h (by intro z; cases z)) b2⟩
end
def spRules (K : PySem.W.Frag) (C : Addr) : Sp := fun vs H Q E => ∃ sg v d, vs = [.str sg, v] ∧ Dp K H v d ∧ Wp.sm d = true ∧ Trk K H v d ∧
  (∀ ps, rulesOf sg d = .ok ps → ∀ H' t bs, Same H H' → H' t = some (.tup (bs.map V.ref)) → RulesAt H' bs ps → Q (.ref t) H') ∧
  (∀ i : Int, rulesOf sg d = .error i → ∀ dd H', H dd = none → Same H H' → H' dd = some (.xd [("place", .int i)]) → E (.ref C) (some dd) H')
theorem ok_rules (B : Wp.Blt mg) {f fR fU C fI : Addr} {fd fdR fdU fdI : FuncData} (F : Fun K "rules_of" "rules_of" s_rules_of f fd) (c_MOST_RULES : ∃ t, mg "MOST_RULES" = some (.int 64 t))
    (D_is_row : Wp.Dh K mg "is_row" fR fdR ["thing"]) (G_is_row : FnOk P w K mg base CX0 1 fR fdR ["thing"] (spRow K))
    (D_is_rule : Wp.Dh K mg "is_rule" fU fdU ["signs", "thing"]) (G_is_rule : FnOk P w K mg base CX0 2 fU fdU ["signs", "thing"] (spRule K))
    (T_BadRule : Wp.ExT K mg "BadRule" C fI "place") (G_BadRule : FnOk P w K mg base CX0 1 fI fdI ["self", "place"] (Wp.spInit K "place")) (b_BadRule : Binds K fdI ["self", "place"] []) : FnOk P w K mg base (L2.CX P w) 3 f fd ["signs", "things"] (spRules K C) := by
  obtain ⟨tk, c_MOST_RULES⟩ := c_MOST_RULES
  refine F.okX sc_rules_of (fun vs H Q E h => ?_) (fun cdv A outer s H vs Q E hr h => ?_)
  · obtain ⟨sg, v, d, rfl, _⟩ := h
    rfl
  · obtain ⟨sg, v, d, rfl, hd, hsm, htk, qr, qe⟩ := h
    refine ⟨_, (pss_cons (ps_if (PW.pt (pw_or (pt_not (pt_val (pe_call G_is_row (hr.mono (by decide)) (by rfl) D_is_row.g D_is_row.k D_is_row.b .nil pass0 (pa_cons (pv 1) pa_nil)))) (pw_or1 (pt_cmpR wo_gt (pe_callB (Wp.wc_len (K := K)) (by rfl) B.len (by decide +kernel) (pa_cons (pv 1) pa_nil)) (pe_glob (v := .int 64) (by rfl) c_MOST_RULES ⟨_, rfl⟩) (nomark _))))) (pss_one (ps_raise rfl (takes_of rfl rfl rfl rfl) (pmk_oex T_BadRule.O T_BadRule.iC T_BadRule.tI G_BadRule (hr.mono (by decide)) b_BadRule .nil pass0 (by rfl) T_BadRule.g (pa_cons (pe_un un_neg pe_int) pa_nil)))) pss_nil)
  (pss_cons (ps_set (i := 2) sc_rules_of.nd rfl (by first | exact .inl rfl | exact .inr rfl) pe_dnewT)
  (pss_cons (ps_for (passes_of rfl) rfl (Wp.wi_enum (K := K) (by rfl) B.enumerate (pa_cons (pv 1) pa_nil)) (Wp.wg_tup (K := K) (n := 2) rfl (pgs_cons (pg_name (i := 3) sc_rules_of.nd rfl (by first | exact .inl rfl | exact .inr rfl)) (pgs_cons (pg_name (i := 4) sc_rules_of.nd rfl (by first | exact .inl rfl | exact .inr rfl)) pgs_nil))) (pss_cons (ps_if (PW.pt (pw_or (pt_not (pt_val (pe_call G_is_rule (hr.mono (by decide)) (by rfl) D_is_rule.g D_is_rule.k D_is_rule.b .nil pass0 (pa_cons (pv 0) (pa_cons (pv 4) pa_nil))))) (pw_or1 (pt_cmp (pc_din (hu_of hr) (pe_callTy (Wp.wc_tuple (K := K)) (by rfl) B.tuple (by decide +kernel) (pa_cons (pv 4) pa_nil)) (pv 2)))))) (pss_one (ps_raise rfl (takes_of rfl rfl rfl rfl) (pmk_oex T_BadRule.O T_BadRule.iC T_BadRule.tI G_BadRule (hr.mono (by decide)) b_BadRule .nil pass0 (by rfl) T_BadRule.g (pa_cons (pv 3) pa_nil)))) pss_nil)
  (pss_one (ps_dput (hu_of hr) (pv 2) (pe_callTy (Wp.wc_tuple (K := K)) (by rfl) B.tuple (by decide +kernel) (pa_cons (pv 4) pa_nil)) pe_bl rfl))))
  (pss_one (ps_ret (pe_callTy (Wp.wc_tuple (K := K)) (by rfl) B.tuple (by decide +kernel) (pa_cons (pe_callTy (Wp.wc_listU (K := K) rfl) (by rfl) B.list (by decide +kernel) (pa_cons (pv 2) pa_nil)) pa_nil))))))), ?_⟩
    refine Wp.st (σ' := [some (.str sg), some v, none, none, none]) rfl ?_
    have bad : ∀ {H1 i}, Same H H1 → rulesOf sg d = .error i → Wp.MkI C (Wp.spInit K "place") [] (fun cls d H' => E cls d H') [.int i] H1 := fun s1 hb => Wp.mki T_BadRule fun dd H' h1 h2 h3 => qe _ hb dd H' (s1.free h1) (s1.trans h2) h3
    repeat walk_at "W"
    refine ⟨v, d, rfl, hd, fun H1 s1 => ?_⟩
    repeat walk_at "W"
    cases hrow : Wp.row d with
    | none =>
      repeat walk_at "W"
      exact bad s1 (by unfold rulesOf; rw [hrow])
    | some ds =>
      obtain ⟨p, ws, rfl, hsq, hal, htr⟩ := htk ds hrow
      have hsA := Wp.sm_row hsm hrow
      have hll := Wp.dps_len hal
      have hsq1 := Wp.sqU_same s1 hsq
      repeat walk_at "W"
      refine Wp.lenU hsq1 ?_
      repeat walk_at "W"
      refine Wp.itd (fun h64 => ?_) (fun h64 => ?_)
      · repeat walk_at "W"
        exact bad s1 (by unfold rulesOf; rw [hrow]; exact if_pos (by omega))
      have hgo : rulesOf sg d = match rulesGo sg [] ds 0 with
          | .error i => .error (i : Nat)
          | .ok ps => .ok ps := by unfold rulesOf; rw [hrow]; exact if_neg (by omega)
      repeat walk_at "W"
      intro S hS
      have sS := Wp.same_upd (o := .dT []) hS
      repeat walk_at "W"
      refine ⟨p, ws, rfl, Wp.enumU hsq (s1.trans sS) (fun i σ1 H1 => ∃ ps x3 x4, σ1 = [some (.str sg), some (.ref p), some (.ref S), x3, x4] ∧ Same H H1 ∧ H1 S = some (.dT (ps.map entR)) ∧ ps.length ≤ i ∧ rulesGo sg [] ds 0 = rulesGo sg ps (ds.drop i) i) ⟨[], _, _, rfl, s1.trans sS, upd_same, Nat.le_refl _, rfl⟩ (fun i σ1 H1 ⟨_, _, _, _, h, _⟩ => h) ?_ ?_⟩
      · rintro i x σ1 H2 T hx ⟨ps, x3, x4, rfl, s2, hSd, hpl, he⟩ hT
        obtain ⟨di, hdi, hdx⟩ := Wp.dps_get hal hx
        have smT := Wp.same_upd (p := T) (o := .tup [.int (i : Nat), x]) hT
        have hd1 : ds.drop i = di :: ds.drop (i + 1) := by
          obtain ⟨hl, hx⟩ := List.getElem?_eq_some_iff.mp hdi
          rw [List.drop_eq_getElem_cons hl, hx]
        rw [hd1] at he
        have sT := s2.trans smT
        have hi64 : i < 64 := by
          have := (List.getElem?_eq_some_iff.mp hdi).1
          omega
        refine Wp.gt (SqT.of upd_same) rfl ?_
        repeat walk_at "W"
        refine ⟨sg, x, di, rfl, Wp.dp_same sT _ _ hdx, Wp.smA_get hsA hdi, fun H3 s3 => ?_⟩
        repeat walk_at "W"
        refine Wp.itnb (fun e1 => ?_) (fun e1 => ?_)
        · repeat walk_at "W"
          refine bad (sT.trans s3) ?_
          rw [hgo, he]
          unfold rulesGo
          rw [if_pos e1]
        obtain ⟨l, r, hro, hrw, _⟩ := isRule_of e1
        have tupR : ∀ {H4 : Hp} {R : VK}, Same H H4 → (∀ b H5, Same H4 H5 → H5 b = some (.tup [.str l, .str r]) → R (.ref b) H5) → Wp.rTupOf K [x] H4 R := by
          intro H4 R s4 hR
          cases di with
          | list xs =>
            cases hrw
            cases hdx with
            | lst hs ha =>
            cases ha with
            | cons a1 ha =>
            cases ha with
            | cons a2 ha =>
            cases ha; cases a1; cases a2
            exact Wp.tupL (s4.seq hs) fun l hl => hR l _ (Wp.same_upd hl) upd_same
          | tuple xs =>
            cases hrw
            obtain ⟨b, hb1, hb2⟩ := htr i l r hdi
            rw [hx] at hb1; cases hb1
            exact Wp.tupT (SqT.of (s4 _ _ hb2)) (hR b _ (Same.refl _) (s4 _ _ hb2))
          | _ => cases hrw
        repeat walk_at "W"
        refine tupR (sT.trans s3) fun b H4 s4 hb => ?_
        have hS4 := s4 _ _ (s3 _ _ (smT _ _ hSd))
        repeat walk_at "W"
        refine Wp.dT_in (k := keyR (l, r)) hS4 hb ?_
        rw [valV_ent]
        repeat walk_at "W"
        refine Wp.itd (fun e2 => ?_) (fun e2 => ?_)
        · repeat walk_at "W"
          refine bad ((sT.trans s3).trans s4) ?_
          have h9 : rulesGo sg ps (di :: ds.drop (i + 1)) i = .error i := by
            rw [rulesGo, if_neg (by rw [e1]; simp), hro]
            exact if_pos e2
          rw [hgo, he, h9]
        repeat walk_at "W"
        refine tupR ((sT.trans s3).trans s4) fun b2 H5 s5 hb2 => ?_
        have hS5 := s5 _ _ hS4
        have hnone : valV (ps.map entR) (keyR (l, r)) = none := by
          have := valV_ent (l, r) ps
          rw [decide_eq_false e2] at this
          cases q : valV (ps.map entR) (keyR (l, r)) with
          | none => rfl
          | some _ => rw [q] at this; cases this
        refine Wp.dT_put (k := keyR (l, r)) hS5 hb2 (by rw [List.length_map]; exact small1000 (by omega)) ?_
        rw [putK_new _ hnone]
        have hS0 : H S = none := s1.free hS
        refine ⟨ps ++ [(l, r)], _, _, rfl, fun b o e => ?_, ?_, ?_, ?_⟩
        · rw [upd_ne (ne_of_none e hS0)]
          exact s5 _ _ (s4 _ _ (s3 _ _ (sT _ _ e)))
        · rw [upd_same, List.map_append]; rfl
        · rw [List.length_append]; simp; omega
        · have h9 : rulesGo sg ps (di :: ds.drop (i + 1)) i = rulesGo sg (ps ++ [(l, r)]) (ds.drop (i + 1)) (i + 1) := by
            rw [rulesGo, if_neg (by rw [e1]; simp), hro]
            exact if_neg e2
          exact he.trans h9
      · rintro σ1 H2 ⟨ps, x3, x4, rfl, s2, hSd, hpl, he⟩
        rw [hll, List.drop_length] at he
        repeat walk_at "W"
        refine .inr (.inl ⟨S, ps.map entR, rfl, .inl hSd, fun p2 bs hp2 hk => ?_⟩)
        have u1 := Wp.same_upd (o := .lst (bs.map V.ref)) hp2
        repeat walk_at "W"
        refine Wp.tupL (SqL.of upd_same) fun t ht => ?_
        have u2 := Wp.same_upd (o := .tup (bs.map V.ref)) ht
        refine qr ps ?_ _ t bs ((s2.trans u1).trans u2) upd_same ((rulesAt_keys hk).same (u1.trans u2))
        rw [hgo, he]; rfl
end
end K57
set_option Elab.async false
set_option linter.all false
set_option maxRecDepth 100000
set_option maxHeartbeats 8000000
namespace K57
open PySem PySem.Spec PyProof.Rows L2 Bk
open Wp (wo_lt wo_le wo_gt wo_ge wo_eq wo_ne wo_in wo_nin wo_add wo_mul op_shlB ws_any wc_int wc_isi u65)
abbrev s_first_rights : Stmt := topS 26
abbrev N_first_rights : List Str := ["rules", "found", "number", "left", "right"]
theorem sc_first_rights : FnScope N_first_rights ["rules"] (defScope s_first_rights) := ⟨rfl, rfl, rfl, by decide +kernel, rfl, by decide +kernel, by decide +kernel⟩
abbrev s_first_fit : Stmt := topS 27
abbrev N_first_fit : List Str := ["rights", "tail", "best", "start", "left", "number", "right"]
theorem sc_first_fit : FnScope N_first_fit ["rights", "tail"] (defScope s_first_fit) := ⟨rfl, rfl, rfl, by decide +kernel, rfl, by decide +kernel, by decide +kernel⟩
abbrev s_left_of_all : Stmt := topS 29
abbrev N_left_of_all : List Str := ["rights", "pieces", "pile", "text", "is_end", "fresh", "place", "sign", "fit", "_", "left", "right"]
theorem sc_left_of_all : FnScope N_left_of_all ["rights", "pieces"] (defScope s_left_of_all) := ⟨rfl, rfl, rfl, by decide +kernel, rfl, by decide +kernel, by decide +kernel⟩
abbrev s_left_over : Stmt := topS 28
abbrev N_left_over : List Str := ["rights", "text"]
theorem sc_left_over : FnScope N_left_over ["rights", "text"] (defScope s_left_over) := ⟨rfl, rfl, rfl, by decide +kernel, rfl, by decide +kernel, by decide +kernel⟩
local macro_rules | `(tactic| walk_at "W") => `(tactic| first
  | (with_reducible first
    | refine Wp.seq ?_ | refine Wp.asg ?_ | refine Wp.ret ?_ | refine Wp.retN ?_ | refine Wp.drop ?_ | refine Wp.nxt ?_ | refine Wp.ifs ?_ | refine Wp.gname ?_
    | refine Wp.op ?_ | refine Wp.un ?_ | refine Wp.tst ?_ | refine Wp.tb' ?_ | refine Wp.tnot ?_ | refine Wp.tand ?_ | refine Wp.tor ?_ | refine Wp.tandV ?_ | refine Wp.torV ?_ | refine Wp.tnotV ?_ | refine Wp.tif ?_ | refine Wp.tchain ?_
    | refine Wp.cb ?_ | refine Wp.call ?_ | refine Wp.cons ?_ | refine Wp.nil ?_ | refine Wp.gsub ?_ | refine Wp.cst ?_ | refine Wp.i0 ?_ | refine Wp.int1 ?_ | refine Wp.eb ?_ | refine Wp.ei ?_
    | refine Wp.gnil ?_ | refine Wp.gcons ?_ | refine Wp.mko ?_ | refine Wp.bm ?_ | refine Wp.ienum ?_ | refine Wp.tru ?_ | refine Wp.u1 ?_ | refine Wp.for_ ?_ | refine Wp.lc ?_ | refine Wp.istr ?_ | refine Wp.ilist ?_ | refine Wp.itup ?_ | refine Wp.irng1 ?_ | refine Wp.irng2 ?_ | refine Wp.yes ?_ | refine Wp.es ?_ | refine Wp.er ?_ | refine Wp.sl ?_ | refine Wp.nopart ?_ | refine Wp.part ?_ | refine Wp.lst ?_ | refine Wp.tup ?_
    | refine Wp.din ?_ | refine Wp.dnotin ?_ | refine Wp.dget ?_ | refine Wp.dget2 ?_ | refine Wp.dput ?_ | refine Wp.dnewK ?_ | refine Wp.dnewT ?_ | refine Wp.bm0 ?_ | refine Wp.m1 ?_ | refine Wp.exs ?_ | refine Wp.is0 ?_ | refine Wp.isnot0 ?_ | refine Wp.fld ?_ | refine Wp.sfld ?_
    | refine Wp.par ?_ | refine Wp.parV ?_ | refine Wp.brk ?_ | refine Wp.aug ?_ | refine Wp.ipaI ?_ | refine Wp.ipsI ?_ | refine Bk.ienumS ?_ | refine Wp.make_ ?_ | refine Wp.itnn ?_ | refine Wp.ltI ?_ | refine Wp.leI ?_ | refine Wp.leS ?_ | refine Wp.inSg ?_ | refine Wp.gtI ?_ | refine Wp.geI ?_ | refine Wp.eqI ?_ | refine Wp.neI ?_ | refine Wp.addI ?_ | refine Wp.ltS ?_ | refine Wp.eqS ?_ | refine Wp.neS ?_)
  | ((with_reducible refine' Wp.var ?hv ?_); (case hv => exact rfl))
  | ((with_reducible refine' Wp.ixl ?hs ?he ?_); (case hs => first | exact SqL.of upd_same | exact SqL.of (by assumption) | assumption); (case he => exact rfl))
  | ((with_reducible refine' Wp.setl ?hs ?he ?_); (case hs => first | exact upd_same | assumption); (case he => exact rfl))
  | ((with_reducible refine' Wp.modP ?hs ?_); (case hs => first | decide | omega))
  | ((with_reducible refine' Wp.divN ?hs ?ht ?_); (case hs => first | decide | omega); (case ht => first | decide | omega))
  | ((with_reducible refine' Wp.mulM ?hs ?ht ?_); (case hs => decide); (case ht => decide))
  | ((with_reducible refine' Wp.mulL ?hs ?_); (case hs => omega))
  | ((with_reducible refine' Wp.mulR ?hs ?_); (case hs => omega))
  | ((with_reducible refine' Wp.powS ?hs ?_); (case hs => decide))
  | ((with_reducible refine' Wp.shr ?hs ?_); (case hs => decide))
  | ((with_reducible refine' Wp.szl ?hs ?_); (case hs => first | decide | (simp; done)))
  | ((with_reducible refine' Wp.lenL ?hs ?_); (case hs => first | exact SqL.of upd_same | exact SqL.of (by assumption) | assumption))
  | ((with_reducible refine' Wp.lenT ?hs ?_); (case hs => first | exact SqT.of upd_same | exact SqT.of (by assumption) | assumption))
  | ((with_reducible refine' Wp.iteC ?hs ?_); (case hs => exact rfl)) | ((with_reducible refine' Wp.iteD ?hs ?_); (case hs => exact Bool.false_ne_true))
  | ((with_reducible refine' Wp.wp ?hs ?_); (case hs => rfl))
  | (with_reducible first | refine Wp.abs ?_ | refine Wp.max2 ?_ | refine Wp.min2 ?_)
  | ((with_reducible refine' Wp.sll ?hs ?_); (case hs => first | exact SqL.of upd_same | exact SqL.of (by assumption) | assumption)))
local macro_rules | `(tactic| walk_at "KQ") => `(tactic| first
  | exact Wp.kq "int" rfl (by decide +kernel) | exact Wp.kq "bool" rfl (by decide +kernel) | exact Wp.kq "str" rfl (by decide +kernel) | exact Wp.kq "list" rfl (by decide +kernel)
  | exact Wp.kq "tuple" rfl (by decide +kernel) | exact Wp.kq "NoneType" rfl (by decide +kernel) | exact Wp.kq "dict" rfl (by decide +kernel))

theorem rulesAt_take {H : Hp} {bs : List Addr} {ps : List (Str × Str)} {i : Nat} {x : V} (h : RulesAt H bs ps) (e : (bs.map V.ref)[i]? = some x) : ∃ b p, x = .ref b ∧ ps[i]? = some p ∧ H b = some (.tup [.str p.1, .str p.2]) := by
  have hl := h.len
  rw [List.getElem?_map] at e
  obtain ⟨b, hb, rfl⟩ := Option.map_eq_some_iff.mp e
  have hi := (List.getElem?_eq_some_iff.mp hb).1
  have hp := List.getElem?_eq_getElem (show i < ps.length by omega)
  obtain ⟨b', h1, h2⟩ := h.get hp
  rw [hb] at h1; cases h1
  exact ⟨b, _, rfl, hp, h2⟩
section
variable {P : Program} {w : World} {K : PySem.W.Frag} {mg : Str → Option Value} {base : Heap}
def spRights : Sp := fun vs H Q _ => ∃ t bs rs, vs = [.ref t] ∧ H t = some (.tup (bs.map V.ref)) ∧ RulesAt H bs rs ∧ rs.length ≤ 64 ∧ ∀ H' d, Same H H' → RightsAt H' d rs → Q (.ref d) H'
theorem ok_rights (B : Wp.Blt mg) {f : Addr} {fd : FuncData} (F : Fun K "first_rights" "first_rights" s_first_rights f fd) : FnOk P w K mg base CX0 1 f fd ["rules"] spRights := by
  refine F.ok sc_first_rights (fun vs H Q E h => ?_) (fun cdv A outer s H vs Q E hr h => ?_)
  · obtain ⟨t, bs, rs, rfl, _⟩ := h
    rfl
  · obtain ⟨t, bs, rs, rfl, ht, hb, hl, q⟩ := h
    refine ⟨_, (pss_cons (ps_set (i := 1) sc_first_rights.nd rfl (by first | exact .inl rfl | exact .inr rfl) pe_dnewK)
  (pss_cons (ps_for PassesOwn.never rfl (Wp.wi_enum (K := K) (by rfl) B.enumerate (pa_cons (pv 0) pa_nil)) (Wp.wg_tup (K := K) (n := 2) rfl (pgs_cons (pg_name (i := 2) sc_first_rights.nd rfl (by first | exact .inl rfl | exact .inr rfl)) (pgs_cons (Wp.wg_tup (K := K) (n := 2) rfl (pgs_cons (pg_name (i := 3) sc_first_rights.nd rfl (by first | exact .inl rfl | exact .inr rfl)) (pgs_cons (pg_name (i := 4) sc_first_rights.nd rfl (by first | exact .inl rfl | exact .inr rfl)) pgs_nil))) pgs_nil))) (pss_one (ps_if (pt_cmp (pc_dnotin (hu_of hr) (pv 3) (pv 1))) (pss_one (ps_dput (hu_of hr) (pv 1) (pv 3) (pe_tup (pa_cons (pv 2) (pa_cons (pv 4) pa_nil))) rfl)) pss_nil)))
  (pss_one (ps_ret (pv 1))))), ?_⟩
    refine Wp.st (σ' := [some (.ref t), none, none, none, none]) rfl ?_
    repeat walk_at "W"
    intro D hD
    have sD := Wp.same_upd (o := .dK []) hD
    have hbl := hb.len
    repeat walk_at "W"
    refine ⟨t, bs.map V.ref, rfl, Wp.enumU (.inr (SqT.of ht)) sD (fun i σ1 H1 => ∃ x2 x3 x4, σ1 = [some (.ref t), some (.ref D), x2, x3, x4] ∧ Same H H1 ∧ RightsAt H1 D (rs.take i)) ⟨_, _, _, rfl, sD, ⟨[], upd_same, by simp, fun x => trivial⟩⟩ (fun i σ1 H1 ⟨_, _, _, _, h, _⟩ => h) ?_ ?_⟩
    · rintro i x σ1 H1 T hx ⟨x2, x3, x4, rfl, s1, hR⟩ hT
      obtain ⟨b, ⟨l, r⟩, rfl, hp, hbt⟩ := rulesAt_take hb hx
      have smT := Wp.same_upd (p := T) (o := .tup [.int (i : Nat), .ref b]) hT
      have sT := s1.trans smT
      have hi := (List.getElem?_eq_some_iff.mp hp).1
      have hlt : (rs.take i).length = i := by rw [List.length_take]; omega
      have htk : rs.take (i + 1) = rs.take i ++ [(l, r)] := by rw [List.take_add_one, hp]; rfl
      refine Wp.gt (SqT.of upd_same) rfl ?_
      repeat walk_at "W"
      refine Wp.gt (SqT.of (sT _ _ hbt)) rfl ?_
      repeat walk_at "W"
      obtain ⟨kvs, h1, h2, h3⟩ := (hR.same smT).ex
      refine Wp.dK_in h1 ?_
      rw [rights_get h3]
      repeat walk_at "W"
      refine Wp.itnb (fun e1 => ?_) (fun e1 => ?_)
      · have e1' : firstOf (rs.take i) l = none := by
          cases q : firstOf (rs.take i) l with
          | none => rfl
          | some _ => rw [q] at e1; cases e1
        repeat walk_at "W"
        intro T2 hT2
        have sm2 := Wp.same_upd (o := .tup [.int (i : Nat), .str r]) hT2
        repeat walk_at "W"
        refine Wp.dK_put (sm2 _ _ h1) (small1000 (by omega)) ?_
        have hH0 : H D = none := hD
        refine ⟨_, _, _, rfl, fun b o e => ?_, ?_⟩
        · rw [upd_ne (ne_of_none e hD)]
          exact sm2 _ _ (sT _ _ e)
        · rw [htk]
          exact rights_new (sm2 _ _ h1) h2 (fun x => (h3 x).same fun b xs e => sm2 _ _ e) e1' (by rw [hlt]; exact upd_same)
      · repeat walk_at "W"
        refine ⟨_, _, _, rfl, sT, ?_⟩
        rw [htk]
        refine rights_old ⟨kvs, h1, h2, h3⟩ fun z => ?_
        rw [z] at e1; cases e1
    · rintro σ1 H1 ⟨x2, x3, x4, rfl, s1, hR⟩
      rw [List.length_map, hbl, List.take_length] at hR
      repeat walk_at "W"
      exact q _ _ s1 hR
def spFit : Sp := fun vs H Q _ => ∃ d rs z, vs = [.ref d, .str z] ∧ RightsAt H d rs ∧ z.length ≤ 1000 ∧ ∀ H' v, Same H H' → BestV H' v (fit rs (cl z)) → Q v H'
theorem ok_fit (B : Wp.Blt mg) {f : Addr} {fd : FuncData} (F : Fun K "first_fit" "first_fit" s_first_fit f fd) : FnOk P w K mg base CX0 1 f fd ["rights", "tail"] spFit := by
  refine F.ok sc_first_fit (fun vs H Q E h => ?_) (fun cdv A outer s H vs Q E hr h => ?_)
  · obtain ⟨d, rs, z, rfl, _⟩ := h
    rfl
  · obtain ⟨d, rs, z, rfl, hR, hz, q⟩ := h
    refine ⟨_, (pss_cons (ps_set (i := 2) sc_first_fit.nd rfl (by first | exact .inl rfl | exact .inr rfl) pe_non)
  (pss_cons (ps_for PassesOwn.never rfl (pi_range1 (by rfl) B.range (pa_cons (pe_callB (Wp.wc_len (K := K)) (by rfl) B.len (by decide +kernel) (pa_cons (pv 1) pa_nil)) pa_nil)) (pg_name (i := 3) sc_first_fit.nd rfl (by first | exact .inl rfl | exact .inr rfl)) (pss_cons (ps_set (i := 4) sc_first_fit.nd rfl (by first | exact .inl rfl | exact .inr rfl) (pe_slice (ws_any (K := K)) (pv 1) (po_some (pv 3)) po_none))
  (pss_one (ps_if (PW.pt (pw_and (pt_cmp (pc_din (hu_of hr) (pv 4) (pv 0))) (pw_and1 (PW.pt (pw_or (pt_cmpR Wp.wo_is (pv 2) pe_non (nomark _)) (pw_or1 (pt_cmpR wo_lt (pe_ix (Wp.wx_seq (K := K)) (pe_dget (hu_of hr) (pv 0) (pv 4) (fun _ _ => rfl)) pe_int (fun _ _ => rfl)) (pe_ix (Wp.wx_seq (K := K)) (pv 2) pe_int (fun _ _ => rfl)) (nomark _)))))))) (pss_cons (ps_asg (pe_dget (hu_of hr) (pv 0) (pv 4) (fun _ _ => rfl)) (Wp.wg_tup (K := K) (n := 2) rfl (pgs_cons (pg_name (i := 5) sc_first_fit.nd rfl (by first | exact .inl rfl | exact .inr rfl)) (pgs_cons (pg_name (i := 6) sc_first_fit.nd rfl (by first | exact .inl rfl | exact .inr rfl)) pgs_nil))))
  (pss_one (ps_set (i := 2) sc_first_fit.nd rfl (by first | exact .inl rfl | exact .inr rfl) (pe_tup (pa_cons (pv 5) (pa_cons (pv 4) (pa_cons (pv 6) pa_nil))))))) pss_nil))))
  (pss_one (ps_ret (pv 2))))), ?_⟩
    refine Wp.st (σ' := [some (.ref d), some (.str z), none, none, none, none, none]) rfl ?_
    repeat walk_at "W"
    refine Wp.lenS (Nat.le_of_lt (small1000 hz)) ?_
    repeat walk_at "W"
    refine ⟨_, rfl, by omega, by omega, ?_⟩
    refine Wp.forIt walk_range (fun i σ1 H1 => ∃ v x3 x4 x5 x6, σ1 = [some (.ref d), some (.str z), some v, x3, x4, x5, x6] ∧ Same H H1 ∧ BestV H1 v ((List.range i).foldl (stepFit rs (cl z)) none)) ⟨_, _, _, _, _, rfl, Same.refl _, rfl⟩ (fun _ _ _ _ _ => trivial) ?_ ?_
    · rintro i x σ1 H1 H1' hi ⟨v, x3, x4, x5, x6, rfl, s1, hB⟩ ⟨rfl, rfl⟩
      obtain ⟨kvs, h1, h2, h3⟩ := (hR.same s1).ex
      have ecut : cutS z (some (0 + (i : Int))) none = mkS ((cl z).drop i) := cutS_lo i (by omega)
      have hfold : (List.range (i + 1)).foldl (stepFit rs (cl z)) none = stepFit rs (cl z) ((List.range i).foldl (stepFit rs (cl z)) none) i := by rw [List.range_succ, List.foldl_append]; rfl
      generalize ho : (List.range i).foldl (stepFit rs (cl z)) none = o at hB hfold
      repeat walk_at "W"
      refine sls hz ?_
      rw [ecut]
      generalize hl : mkS ((cl z).drop i) = l
      iterate 2 walk_at "W"
      refine Wp.cutT (fun b H' => H' = H1' ∧ (b = false → stepFit rs (cl z) o i = o) ∧ (b = true → ∃ n r, firstOf rs l = some (n, r) ∧ stepFit rs (cl z) o i = some (n, l, r))) (fun R hR => ?_) ?_
      · repeat walk_at "W"
        refine Wp.dK_in h1 ?_
        rw [rights_get h3]
        cases hf : firstOf rs l with
        | none =>
          repeat walk_at "W"
          exact hR _ _ ⟨rfl, (fun _ => by unfold stepFit; rw [hl, hf]), (fun z => by cases z)⟩
        | some y =>
          obtain ⟨n, r⟩ := y
          obtain ⟨b, hb1, hb2⟩ := rights_some h3 hf
          repeat walk_at "W"
          rw [best_none hB]
          cases o with
          | none =>
            repeat walk_at "W"
            exact hR _ _ ⟨rfl, (fun z => by cases z), fun _ => ⟨n, r, hf, by unfold stepFit; rw [hl, hf]⟩⟩
          | some p =>
            obtain ⟨m, x, y⟩ := p
            obtain ⟨bb, rfl, hbb⟩ := hB
            repeat walk_at "W"
            refine Wp.dK_get h1 hb1 ?_
            repeat walk_at "W"
            refine Wp.ixt (SqT.of hb2) rfl ?_
            repeat walk_at "W"
            refine Wp.ixt (SqT.of hbb) rfl ?_
            repeat walk_at "W"
            refine hR _ _ ⟨rfl, fun z => ?_, fun z => ⟨n, r, hf, ?_⟩⟩
            · have z' := of_decide_eq_false z
              unfold stepFit; rw [hl, hf]
              exact if_neg (by omega)
            · have z' := of_decide_eq_true z
              unfold stepFit; rw [hl, hf]
              exact if_pos (by omega)
      · rintro b H2 ⟨rfl, hf, ht⟩
        cases b with
        | false =>
          repeat walk_at "W"
          refine ⟨_, _, _, _, _, rfl, s1, ?_⟩
          rw [hfold, hf rfl]; exact hB
        | true =>
          obtain ⟨n, r, hfi, hst⟩ := ht rfl
          obtain ⟨b, hb1, hb2⟩ := rights_some h3 hfi
          repeat walk_at "W"
          refine Wp.dK_get h1 hb1 ?_
          repeat walk_at "W"
          refine Wp.gt (SqT.of hb2) rfl ?_
          repeat walk_at "W"
          intro T hT
          repeat walk_at "W"
          refine ⟨_, _, _, _, _, rfl, s1.trans (Wp.same_upd hT), ?_⟩
          rw [hfold, hst]
          exact ⟨T, rfl, upd_same⟩
    · rintro σ1 H1 ⟨v, x3, x4, x5, x6, rfl, s1, hB⟩
      repeat walk_at "W"
      have e : (z.length : Int).toNat = (cl z).length := by rw [len_cl]; omega
      rw [e] at hB
      exact q _ _ s1 hB
def spAll : Sp := fun vs H Q _ => ∃ d PP T1 rs z, vs = [.ref d, .ref PP] ∧ H PP = some (.lst [.ref T1]) ∧ H T1 = some (.tup [.str z, .bl false]) ∧ RightsAt H d rs ∧ Good rs ∧ z.length ≤ 1000 ∧ ∀ H', Same H H' → Q (.str (mkS (overP rs (cl z)))) H'
theorem ok_all (B : Wp.Blt mg) {f fF : Addr} {fd fdF : FuncData} (F : Fun K "left_of_all" "left_of_all" s_left_of_all f fd) (c_LONGEST_LEFT : ∃ t, mg "LONGEST_LEFT" = some (.int 4 t))
    (D_first_fit : Wp.Dh K mg "first_fit" fF fdF ["rights", "tail"]) (G_first_fit : FnOk P w K mg base CX0 1 fF fdF ["rights", "tail"] spFit) : FnOk P w K mg base CX0 2 f fd ["rights", "pieces"] spAll := by
  obtain ⟨tk1, c_LONGEST_LEFT⟩ := c_LONGEST_LEFT
  refine F.ok sc_left_of_all (fun vs H Q E h => ?_) (fun cdv A outer s H vs Q E hr h => ?_)
  · obtain ⟨d, PP, T1, rs, z, rfl, _⟩ := h
    rfl
  · obtain ⟨d, PP, T1, rs, z, rfl, hPP, hT1, hR, hg, hz, q⟩ := h
    refine ⟨_, (pss_cons (ps_set (i := 2) sc_left_of_all.nd rfl (by first | exact .inl rfl | exact .inr rfl) (pe_lst pa_nil))
  (pss_cons (ps_for PassesOwn.never rfl (Wp.wi_list (K := K) (pv 1)) (Wp.wg_tup (K := K) (n := 2) rfl (pgs_cons (pg_name (i := 3) sc_left_of_all.nd rfl (by first | exact .inl rfl | exact .inr rfl)) (pgs_cons (pg_name (i := 4) sc_left_of_all.nd rfl (by first | exact .inl rfl | exact .inr rfl)) pgs_nil))) (pss_cons (ps_set (i := 5) sc_left_of_all.nd rfl (by first | exact .inl rfl | exact .inr rfl) pe_int)
  (pss_one (ps_for PassesOwn.never rfl (Bk.wi_enumS (by rfl) B.enumerate (pa_cons (pv 3) pa_nil)) (Wp.wg_tup (K := K) (n := 2) rfl (pgs_cons (pg_name (i := 6) sc_left_of_all.nd rfl (by first | exact .inl rfl | exact .inr rfl)) (pgs_cons (pg_name (i := 7) sc_left_of_all.nd rfl (by first | exact .inl rfl | exact .inr rfl)) pgs_nil))) (pss_cons (ps_if (PW.pt (pw_and (Wp.wt_truth (K := K) (pv 4) (by intro _; rfl)) (pw_and1 (PW.pt (pw_or (pt_not (Wp.wt_truth (K := K) (pv 2) (by intro _; rfl))) (pw_or1 (pt_cmpR (wo_eq (K := K) hr.units) (pv 5) (pe_op op_sub (pe_glob (v := .int 4) (by rfl) c_LONGEST_LEFT ⟨_, rfl⟩) pe_int) (nomark _)))))))) (pss_cons (ps_expr (Wp.wbm (K := K) (pe_bm PySem.F.plainAttrs_list PySem.F.slot_list_extend PySem.F.type_list_extend mt_extend (pv 2) (pa_cons (pe_slice (ws_any (K := K)) (pv 3) (po_some (pv 6)) po_none) pa_nil))))
  (pss_one ps_break)) pss_nil)
  (pss_cons (ps_expr (Wp.wbm (K := K) (pe_bm PySem.F.plainAttrs_list PySem.F.slot_list_append PySem.F.type_list_append mt_append (pv 2) (pa_cons (pv 7) pa_nil))))
  (pss_cons (ps_aug (i := 5) sc_left_of_all.nd rfl (by first | exact .inl rfl | exact .inr rfl) pe_int ip_add)
  (pss_cons (ps_set (i := 8) sc_left_of_all.nd rfl (by first | exact .inl rfl | exact .inr rfl) (pe_call G_first_fit (hr.mono (by decide)) (by rfl) D_first_fit.g D_first_fit.k D_first_fit.b .nil pass0 (pa_cons (pv 0) (pa_cons (Wp.wjoin (K := K) (pe_join pe_str (pe_slice (ws_any (K := K)) (pv 2) (po_some (pe_un un_neg (pe_glob (v := .int 4) (by rfl) c_LONGEST_LEFT ⟨_, rfl⟩))) po_none))) pa_nil))))
  (pss_one (ps_while PassesOwn.never (pt_cmpR Wp.wo_isnot (pv 8) pe_non (nomark _)) (pss_cons (ps_asg (pv 8) (Wp.wg_tup (K := K) (n := 3) rfl (pgs_cons (pg_name (i := 9) sc_left_of_all.nd rfl (by first | exact .inl rfl | exact .inr rfl)) (pgs_cons (pg_name (i := 10) sc_left_of_all.nd rfl (by first | exact .inl rfl | exact .inr rfl)) (pgs_cons (pg_name (i := 11) sc_left_of_all.nd rfl (by first | exact .inl rfl | exact .inr rfl)) pgs_nil)))))
  (pss_cons (ps_for PassesOwn.never rfl (pi_str (pv 10)) (pg_name (i := 9) sc_left_of_all.nd rfl (by first | exact .inl rfl | exact .inr rfl)) (pss_one (ps_expr (Wp.wbm0 (K := K) (pe_bm0 PySem.F.plainAttrs_list PySem.F.slot_list_pop PySem.F.type_list_pop mt_pop (pv 2))))))
  (pss_cons (ps_if (Wp.wt_truth (K := K) (pv 11) (by intro _; rfl)) (pss_one (ps_expr (Wp.wbm (K := K) (pe_bm PySem.F.plainAttrs_list PySem.F.slot_list_append PySem.F.type_list_append mt_append (pv 2) (pa_cons (pv 11) pa_nil))))) pss_nil)
  (pss_cons (ps_set (i := 5) sc_left_of_all.nd rfl (by first | exact .inl rfl | exact .inr rfl) pe_int)
  (pss_one (ps_set (i := 8) sc_left_of_all.nd rfl (by first | exact .inl rfl | exact .inr rfl) (pe_call G_first_fit (hr.mono (by decide)) (by rfl) D_first_fit.g D_first_fit.k D_first_fit.b .nil pass0 (pa_cons (pv 0) (pa_cons (Wp.wjoin (K := K) (pe_join pe_str (pe_slice (ws_any (K := K)) (pv 2) (po_some (pe_un un_neg (pe_glob (v := .int 4) (by rfl) c_LONGEST_LEFT ⟨_, rfl⟩))) po_none))) pa_nil)))))))))))))))))))
  (pss_one (ps_ret (Wp.wjoin (K := K) (pe_join pe_str (pv 2))))))), ?_⟩
    refine Wp.st (σ' := [some (.ref d), some (.ref PP), none, none, none, none, none, none, none, none, none, none]) rfl ?_
    have hzl := len_cl z
    repeat walk_at "W"
    intro L hL
    have sL := Wp.same_upd (o := .lst []) hL
    have hLe := upd_same (H := H) (a := L) (o := .lst [])
    generalize upd H L (.lst []) = H0 at sL hLe ⊢
    repeat walk_at "W"
    refine ⟨⟨_, SqL.of (sL _ _ hPP)⟩, Wp.forIt (walk_list (xs := [.ref T1])) (fun i σ1 H1 => ∃ x3 x4 x5 x6 x7 x8 x9 x10 x11, σ1 = [some (.ref d), some (.ref PP), some (.ref L), x3, x4, x5, x6, x7, x8, x9, x10, x11] ∧ Same H H1 ∧ H1 L = some (.lst ((if i = 0 then [] else overF rs [] (cl z)).map ch))) ⟨_, _, _, _, _, _, _, _, _, rfl, sL, hLe⟩ (fun i σ1 H1 _ ⟨_, _, _, _, _, _, _, _, _, _, s, _⟩ => SqL.of (s _ _ hPP)) ?_ ?_⟩
    rotate_left
    · rintro σ1 H1 ⟨x3, x4, x5, x6, x7, x8, x9, x10, x11, rfl, s1, hP⟩
      rw [if_neg (by simp)] at hP
      have hle : (overF rs [] (cl z)).length ≤ 1000 := by
        have h1 : (overP rs (cl z)).length ≤ (cl z).length := ((nf_over hg).star (cl z)).le (rr_short hg)
        have h2 : overF rs [] (cl z) = overP rs (cl z) := rfl
        rw [h2]; omega
      repeat walk_at "W"
      refine joinC (SqL.of hP) (by omega) ?_
      exact q _ s1
    rintro io xo σo Ho Ho' hio ⟨x3, x4, x5, x6, x7, x8, x9, x10, x11, rfl, sO, hPO⟩ ⟨eHo, hxo⟩
    have hio0 : io = 0 := by have : io < 1 := hio; omega
    subst hio0
    cases hxo
    rw [eHo]
    refine Wp.gt (SqT.of (sO _ _ hT1)) rfl ?_
    repeat walk_at "W"
    refine ⟨z, rfl, enumS (fun i σ1 H1 => ∃ cs fr x6 x7 x8 x9 x10 x11, σ1 = [some (.ref d), some (.ref PP), some (.ref L), some (.str z), some (.bl false), some (.int fr), x6, x7, x8, x9, x10, x11] ∧ Same H H1 ∧ H1 L = some (.lst (cs.map ch)) ∧ cs.length ≤ i ∧ overF rs [] ((cl z).take i) = cs) ⟨[], 0, _, _, _, _, _, _, rfl, sO, hPO, Nat.zero_le _, rfl⟩ ?_ ?_⟩
    · rintro i c σ1 H1 T hc ⟨cs, fr, x6, x7, x8, x9, x10, x11, rfl, s1, hP, hlen, hov⟩ hT
      have sT := Wp.same_upd (o := .tup [.int (i : Nat), ch c]) hT
      have hi2 : i < z.length := (Array.getElem?_eq_some_iff.mp hc).1
      have hcl : (cl z)[i]? = some c := by show z.cps.toList[i]? = _; rw [Array.getElem?_toList]; exact hc
      have hov1 : overF rs ([]) ((cl z).take (i + 1)) = shrinkP rs (cs ++ [c]).length (cs ++ [c]) := by
        rw [List.take_add_one, hcl]
        unfold overF
        rw [List.foldl_append]
        unfold overF at hov
        rw [hov]; rfl
      have upL : ∀ {G : Hp} (o : HO), Same H G → Same H (upd G L o) := fun o s b u e => by rw [upd_ne (ne_of_none e hL)]; exact s _ _ e
      refine Wp.gt (SqT.of upd_same) rfl ?_
      repeat walk_at "W"
      refine ⟨false, rfl, ?_⟩
      have s1T := s1.trans sT
      have hPT := sT _ _ hP
      generalize upd H1 T (.tup [.int (i : Nat), ch c]) = H1' at s1T hPT ⊢
      refine Wp.iteD Bool.false_ne_true ?_
      refine Wp.iteD Bool.false_ne_true ?_
      refine Wp.nxt ?_
      with_reducible refine Wp.cutQ (fun σ' H' => σ' = [some (.ref d), some (.ref PP), some (.ref L), some (.str z), some (.bl false), some (.int fr), some (.int (i : Nat)), some (ch c), x8, x9, x10, x11] ∧ Same H H' ∧ H' L = some (.lst ((cs ++ [c]).map ch))) (fun nx hn => ?_) ?_
      · repeat walk_at "W"
        refine Wp.tyl hPT ?_
        repeat walk_at "W"
        refine Wp.app hPT (by rw [List.length_map]; exact small1000 (by omega)) ?_
        repeat walk_at "W"
        exact hn _ _ ⟨rfl, upL _ s1T, by rw [upd_same, List.map_append]; rfl⟩
      rintro σ' H2 ⟨rfl, s2, hP2⟩
      have hlen2 : (cs ++ [c]).length ≤ 1000 := by rw [List.length_append]; simp; omega
      have hlen3 : (cs ++ [c]).length ≤ i + 1 := by rw [List.length_append]; simp; omega
      generalize cs ++ [c] = cs2 at hP2 hov1 hlen2 hlen3
      have fitC : ∀ (cs2 : List Nat) (H2 : Hp) (a5 a6 a7 a8 a9 a10 a11 : Option V) (D : Ends), Same H H2 → H2 L = some (.lst (cs2.map ch)) → cs2.length ≤ 1000 → (∀ v H3, Same H2 H3 → BestV H3 v (fit rs (last4 cs2)) → D.nx [some (.ref d), some (.ref PP), some (.ref L), some (.str z), some (.bl false), a5, a6, a7, some v, a9, a10, a11] H3) →
          tAsg (tCall spFit [] E0 (tCons (tVar 0) (tCons (tM1 (Wp.rJoin K) (tC (.str "")) (tSl (Wp.rSlU K) (tVar 2) (tPart (tUn (rU fun i => V.int (-i)) (tC (.int 4)))) tNoPart)) tNil))) (gName 8) D [some (.ref d), some (.ref PP), some (.ref L), some (.str z), some (.bl false), a5, a6, a7, a8, a9, a10, a11] H2 := by
        intro cs2 H2 a5 a6 a7 a8 a9 a10 a11 D s2 hP2 hl h
        repeat walk_at "W"
        intro q hq
        rw [cut4]
        have u1 := Wp.same_upd (o := .lst ((last4 cs2).map ch)) hq
        refine joinC (SqL.of upd_same) (by rw [List.length_drop]; omega) ?_
        repeat walk_at "W"
        refine ⟨d, rs, _, rfl, hR.same (s2.trans u1), by rw [len_mk, List.length_drop]; omega, fun H3 v s3 hb => ?_⟩
        rw [cl_mk] at hb
        repeat walk_at "W"
        exact h v H3 (u1.trans s3) hb
      refine Wp.cutQ (fun σ' H' => σ' = [some (.ref d), some (.ref PP), some (.ref L), some (.str z), some (.bl false), some (.int (fr + 1)), some (.int (i : Nat)), some (ch c), x8, x9, x10, x11] ∧ H' = H2) (fun nx hn => ?_) ?_
      · repeat walk_at "W"
        refine ⟨_, rfl, ?_⟩
        repeat walk_at "W"
        exact hn _ _ ⟨rfl, rfl⟩
      rintro σ' H2 ⟨rfl, rfl⟩
      refine Wp.seq ?_
      refine fitC cs2 H2 _ _ _ x8 x9 x10 x11 _ s2 hP2 hlen2 fun v H3 s3 hB => ?_
      have sA := s2.trans s3
      have hPA := s3 _ _ hP2
      refine whileN (fun σ' H' => ∃ cs v fr x9 x10 x11, σ' = [some (.ref d), some (.ref PP), some (.ref L), some (.str z), some (.bl false), some (.int fr), some (.int (i : Nat)), some (ch c), some v, x9, x10, x11] ∧ Same H H' ∧ H' L = some (.lst (cs.map ch)) ∧ cs.length ≤ i + 1 ∧ BestV H' v (fit rs (last4 cs)) ∧ shrinkP rs cs.length cs = shrinkP rs cs2.length cs2)
        (fun _ H' => match H' L with | some (.lst xs) => xs.length | _ => 0) ⟨cs2, v, _, _, _, _, rfl, sA, hPA, hlen3, hB, rfl⟩ ?_
      rintro σ' H4 ⟨cs3, v3, fr3, z9, z10, z11, rfl, s4, hP4, hl4, hB4, hsh⟩
      refine ⟨v3, rfl, ?_⟩
      rw [best_none hB4]
      cases hf : fit rs (last4 cs3) with
      | none =>
        refine Wp.iteD (by simp) ?_
        refine ⟨cs3, _, _, _, _, _, _, _, rfl, s4, hP4, by omega, ?_⟩
        rw [hov1, ← hsh, shrinkP_none hf]
      | some p =>
        obtain ⟨n, l, r⟩ := p
        obtain ⟨g1, g2, g3, g4, g5⟩ := fit_len hg hf
        rw [hf] at hB4
        obtain ⟨b, rfl, hb⟩ := hB4
        refine Wp.iteC rfl ?_
        refine Wp.cutQ (fun σ' H' => σ' = [some (.ref d), some (.ref PP), some (.ref L), some (.str z), some (.bl false), some (.int fr3), some (.int (i : Nat)), some (ch c), some (.ref b), some (.int n), some (.str l), some (.str r)] ∧ H' = H4) (fun nx hn => ?_) ?_
        · repeat walk_at "W"
          refine Wp.gt (SqT.of hb) rfl ?_
          repeat walk_at "W"
          exact hn _ _ ⟨rfl, rfl⟩
        rintro σ' H5 ⟨rfl, rfl⟩
        have hll := len_cl l
        refine Wp.cutQ (fun σ' H' => ∃ z9, σ' = [some (.ref d), some (.ref PP), some (.ref L), some (.str z), some (.bl false), some (.int fr3), some (.int (i : Nat)), some (ch c), some (.ref b), z9, some (.str l), some (.str r)] ∧ Same H H' ∧ H' L = some (.lst ((cs3.take (cs3.length - l.length)).map ch))) (fun nx hn => ?_) ?_
        · repeat walk_at "W"
          refine Wp.forIt walk_str (fun j σ1 H1 => ∃ z9, σ1 = [some (.ref d), some (.ref PP), some (.ref L), some (.str z), some (.bl false), some (.int fr3), some (.int (i : Nat)), some (ch c), some (.ref b), z9, some (.str l), some (.str r)] ∧ Same H H1 ∧ H1 L = some (.lst ((cs3.take (cs3.length - j)).map ch))) ⟨_, rfl, s4, by rw [Nat.sub_zero, List.take_length]; exact hP4⟩ (fun _ _ _ _ _ => trivial) ?_ ?_
          · rintro j x σ1 H1 H1' hj ⟨z9, rfl, s5, hP5⟩ ⟨rfl, c5, hc5, rfl⟩
            have hj2 : j < l.length := hj
            obtain ⟨cc, hcc⟩ := last_snoc (cs3.take (cs3.length - j)) (by rw [List.length_take]; omega)
            rw [List.length_take, List.take_take] at hcc
            rw [show min (min (cs3.length - j) cs3.length - 1) (cs3.length - j) = cs3.length - (j + 1) by omega] at hcc
            rw [hcc, List.map_append] at hP5
            repeat walk_at "W"
            refine Wp.tyl hP5 ?_
            refine Wp.pop hP5 ?_
            repeat walk_at "W"
            exact ⟨_, rfl, upL _ s5, upd_same⟩
          · rintro σ1 H1 ⟨z9, rfl, s5, hP5⟩
            exact hn _ _ ⟨z9, rfl, s5, hP5⟩
        rintro σ' H6 ⟨z9, rfl, s6, hP6⟩
        refine Wp.cutQ (fun σ' H' => σ' = [some (.ref d), some (.ref PP), some (.ref L), some (.str z), some (.bl false), some (.int fr3), some (.int (i : Nat)), some (ch c), some (.ref b), z9, some (.str l), some (.str r)] ∧ Same H H' ∧ H' L = some (.lst ((cs3.take (cs3.length - l.length) ++ cl r).map ch))) (fun nx hn => ?_) ?_
        · repeat walk_at "W"
          refine truS (by omega) ?_
          have hrl := len_cl r
          cases hr : cl r with
          | nil =>
            rw [hr] at hrl
            refine Wp.iteD (by simp at hrl; simp [← hrl]) ?_
            refine hn _ _ ⟨rfl, s6, ?_⟩
            rw [hr, List.append_nil]; exact hP6
          | cons c0 rest =>
            rw [hr] at hrl
            have hrest : rest = [] := by
              cases rest with
              | nil => rfl
              | cons _ _ => simp at hrl; omega
            subst hrest
            have er : r = ⟨#[c0]⟩ := ext hr
            refine Wp.iteC (by simp at hrl; simp [← hrl]) ?_
            repeat walk_at "W"
            refine Wp.tyl hP6 ?_
            repeat walk_at "W"
            refine Wp.app hP6 (by rw [List.length_map, List.length_take]; exact small1000 (by omega)) ?_
            repeat walk_at "W"
            refine hn _ _ ⟨rfl, upL _ s6, ?_⟩
            rw [upd_same, List.map_append, er]; rfl
        rintro σ' H7 ⟨rfl, s7, hP7⟩
        have hln : (cs3.take (cs3.length - l.length) ++ cl r).length < cs3.length := by rw [List.length_append, List.length_take, len_cl]; omega
        refine Wp.cutQ (fun σ' H' => σ' = [some (.ref d), some (.ref PP), some (.ref L), some (.str z), some (.bl false), some (.int 0), some (.int (i : Nat)), some (ch c), some (.ref b), z9, some (.str l), some (.str r)] ∧ H' = H7) (fun nx hn => ?_) ?_
        · repeat walk_at "W"
          exact hn _ _ ⟨rfl, rfl⟩
        rintro σ' H7 ⟨rfl, rfl⟩
        refine fitC _ H7 _ _ _ _ _ _ _ _ s7 hP7 (by omega) fun v8 H8 s8 hB8 => ?_
        refine ⟨⟨_, v8, _, _, _, _, rfl, s7.trans s8, s8 _ _ hP7, by omega, hB8, ?_⟩, ?_⟩
        · rw [← hsh, shrinkP_some hg hf]
        · have e1 := s8 _ _ hP7
          show (match H8 L with | some (.lst xs) => xs.length | _ => 0) < (match H5 L with | some (.lst xs) => xs.length | _ => 0)
          rw [e1, hP4]
          show ((cs3.take (cs3.length - l.length) ++ cl r).map ch).length < (cs3.map ch).length
          rw [List.length_map, List.length_map]; exact hln
    · rintro σ1 H1 ⟨cs, fr, x6, x7, x8, x9, x10, x11, rfl, s1, hP, hlen, hov⟩
      have e : (cl z).take z.cps.size = cl z := List.take_of_length_le (by rw [hzl]; exact Nat.le_refl _)
      rw [e] at hov
      refine ⟨_, _, _, _, _, _, _, _, _, rfl, s1, ?_⟩
      rw [if_neg (by decide), hov]
      exact hP
def spLeft : Sp := fun vs H Q _ => ∃ d rs z, vs = [.ref d, .str z] ∧ RightsAt H d rs ∧ Good rs ∧ z.length ≤ 1000 ∧ ∀ H', Same H H' → Q (.str (mkS (overP rs (cl z)))) H'
theorem ok_left (B : Wp.Blt mg) {f fF : Addr} {fd fdF : FuncData} (F : Fun K "left_over" "left_over" s_left_over f fd)
    (D_left_of_all : Wp.Dh K mg "left_of_all" fF fdF ["rights", "pieces"]) (G_left_of_all : FnOk P w K mg base CX0 2 fF fdF ["rights", "pieces"] spAll) : FnOk P w K mg base CX0 3 f fd ["rights", "text"] spLeft := by
  refine F.ok sc_left_over (fun vs H Q E h => ?_) (fun cdv A outer s H vs Q E hr h => ?_)
  · obtain ⟨d, rs, z, rfl, _⟩ := h
    rfl
  · obtain ⟨d, rs, z, rfl, hR, hg, hz, q⟩ := h
    refine ⟨_, (pss_one (ps_ret (pe_call G_left_of_all (hr.mono (by decide)) (by rfl) D_left_of_all.g D_left_of_all.k D_left_of_all.b .nil pass0 (pa_cons (pv 0) (pa_cons (pe_lst (pa_cons (pe_tup (pa_cons (pv 1) (pa_cons pe_bl pa_nil))) pa_nil)) pa_nil))))), ?_⟩
    refine Wp.st (σ' := [some (.ref d), some (.str z)]) rfl ?_
    repeat walk_at "W"
    intro T hT
    have sT := Wp.same_upd (o := .tup [.str z, .bl false]) hT
    have eT := upd_same (H := H) (a := T) (o := .tup [.str z, .bl false])
    generalize upd H T (.tup [.str z, .bl false]) = H1 at sT eT ⊢
    repeat walk_at "W"
    intro L hL
    have sL := Wp.same_upd (o := .lst [.ref T]) hL
    repeat walk_at "W"
    exact ⟨d, L, T, rs, z, rfl, upd_same, sL _ _ eT, hR.same (sT.trans sL), hg, hz, fun H' s1 => q H' ((sT.trans sL).trans s1)⟩
end
end K57
set_option Elab.async false
set_option linter.all false
set_option maxRecDepth 100000
set_option maxHeartbeats 8000000
namespace K57
open PySem PySem.Spec PyProof.Rows L2 Bk
open Wp (wo_lt wo_le wo_gt wo_ge wo_eq wo_ne wo_in wo_nin wo_add wo_mul op_shlB ws_any wc_int wc_isi u65)
abbrev s_used : Stmt := topS 30
abbrev N_used : List Str := ["rules", "text", "place", "number", "left", "right"]
theorem sc_used : FnScope N_used ["rules", "text", "place", "number"] (defScope s_used) := ⟨rfl, rfl, rfl, by decide +kernel, rfl, by decide +kernel, by decide +kernel⟩
abbrev s_overlap_text : Stmt := topS 31
abbrev N_overlap_text : List Str := ["left", "place", "other", "both"]
theorem sc_overlap_text : FnScope N_overlap_text ["left", "place", "other"] (defScope s_overlap_text) := ⟨rfl, rfl, rfl, by decide +kernel, rfl, by decide +kernel, by decide +kernel⟩
abbrev s_overlaps_of : Stmt := topS 32
abbrev N_overlaps_of : List Str := ["rules", "found", "one", "left", "_", "other", "right", "place", "text"]
theorem sc_overlaps_of : FnScope N_overlaps_of ["rules"] (defScope s_overlaps_of) := ⟨rfl, rfl, rfl, by decide +kernel, rfl, by decide +kernel, by decide +kernel⟩
local macro_rules | `(tactic| walk_at "W") => `(tactic| first
  | (with_reducible first
    | refine Wp.seq ?_ | refine Wp.asg ?_ | refine Wp.ret ?_ | refine Wp.retN ?_ | refine Wp.drop ?_ | refine Wp.nxt ?_ | refine Wp.ifs ?_ | refine Wp.gname ?_
    | refine Wp.op ?_ | refine Wp.un ?_ | refine Wp.tst ?_ | refine Wp.tb' ?_ | refine Wp.tnot ?_ | refine Wp.tand ?_ | refine Wp.tor ?_ | refine Wp.tandV ?_ | refine Wp.torV ?_ | refine Wp.tnotV ?_ | refine Wp.tif ?_ | refine Wp.tchain ?_
    | refine Wp.cb ?_ | refine Wp.call ?_ | refine Wp.cons ?_ | refine Wp.nil ?_ | refine Wp.gsub ?_ | refine Wp.cst ?_ | refine Wp.i0 ?_ | refine Wp.int1 ?_ | refine Wp.eb ?_ | refine Wp.ei ?_
    | refine Wp.gnil ?_ | refine Wp.gcons ?_ | refine Wp.mko ?_ | refine Wp.bm ?_ | refine Wp.ienum ?_ | refine Wp.tru ?_ | refine Wp.u1 ?_ | refine Wp.for_ ?_ | refine Wp.lc ?_ | refine Wp.istr ?_ | refine Wp.ilist ?_ | refine Wp.itup ?_ | refine Wp.irng1 ?_ | refine Wp.irng2 ?_ | refine Wp.yes ?_ | refine Wp.es ?_ | refine Wp.er ?_ | refine Wp.sl ?_ | refine Wp.nopart ?_ | refine Wp.part ?_ | refine Wp.lst ?_ | refine Wp.tup ?_
    | refine Wp.din ?_ | refine Wp.dnotin ?_ | refine Wp.dget ?_ | refine Wp.dget2 ?_ | refine Wp.dput ?_ | refine Wp.dnewK ?_ | refine Wp.dnewT ?_ | refine Wp.bm0 ?_ | refine Wp.m1 ?_ | refine Wp.exs ?_ | refine Wp.is0 ?_ | refine Wp.isnot0 ?_ | refine Wp.fld ?_ | refine Wp.sfld ?_
    | refine Wp.par ?_ | refine Wp.parV ?_ | refine Wp.brk ?_ | refine Wp.aug ?_ | refine Wp.ipaI ?_ | refine Wp.ipsI ?_ | refine Bk.ienumS ?_ | refine Wp.make_ ?_ | refine Wp.itnn ?_ | refine Wp.ltI ?_ | refine Wp.leI ?_ | refine Wp.leS ?_ | refine Wp.inSg ?_ | refine Wp.gtI ?_ | refine Wp.geI ?_ | refine Wp.eqI ?_ | refine Wp.neI ?_ | refine Wp.addI ?_ | refine Wp.ltS ?_ | refine Wp.eqS ?_ | refine Wp.neS ?_)
  | ((with_reducible refine' Wp.var ?hv ?_); (case hv => exact rfl))
  | ((with_reducible refine' Wp.ixl ?hs ?he ?_); (case hs => first | exact SqL.of upd_same | exact SqL.of (by assumption) | assumption); (case he => exact rfl))
  | ((with_reducible refine' Wp.setl ?hs ?he ?_); (case hs => first | exact upd_same | assumption); (case he => exact rfl))
  | ((with_reducible refine' Wp.modP ?hs ?_); (case hs => first | decide | omega))
  | ((with_reducible refine' Wp.divN ?hs ?ht ?_); (case hs => first | decide | omega); (case ht => first | decide | omega))
  | ((with_reducible refine' Wp.mulM ?hs ?ht ?_); (case hs => decide); (case ht => decide))
  | ((with_reducible refine' Wp.mulL ?hs ?_); (case hs => omega))
  | ((with_reducible refine' Wp.mulR ?hs ?_); (case hs => omega))
  | ((with_reducible refine' Wp.powS ?hs ?_); (case hs => decide))
  | ((with_reducible refine' Wp.shr ?hs ?_); (case hs => decide))
  | ((with_reducible refine' Wp.szl ?hs ?_); (case hs => first | decide | (simp; done)))
  | ((with_reducible refine' Wp.lenL ?hs ?_); (case hs => first | exact SqL.of upd_same | exact SqL.of (by assumption) | assumption))
  | ((with_reducible refine' Wp.lenT ?hs ?_); (case hs => first | exact SqT.of upd_same | exact SqT.of (by assumption) | assumption))
  | ((with_reducible refine' Wp.iteC ?hs ?_); (case hs => exact rfl)) | ((with_reducible refine' Wp.iteD ?hs ?_); (case hs => exact Bool.false_ne_true))
  | ((with_reducible refine' Wp.wp ?hs ?_); (case hs => rfl))
  | (with_reducible first | refine Wp.abs ?_ | refine Wp.max2 ?_ | refine Wp.min2 ?_)
  | ((with_reducible refine' Wp.sll ?hs ?_); (case hs => first | exact SqL.of upd_same | exact SqL.of (by assumption) | assumption)))
local macro_rules | `(tactic| walk_at "KQ") => `(tactic| first
  | exact Wp.kq "int" rfl (by decide +kernel) | exact Wp.kq "bool" rfl (by decide +kernel) | exact Wp.kq "str" rfl (by decide +kernel) | exact Wp.kq "list" rfl (by decide +kernel)
  | exact Wp.kq "tuple" rfl (by decide +kernel) | exact Wp.kq "NoneType" rfl (by decide +kernel) | exact Wp.kq "dict" rfl (by decide +kernel))

section
variable {P : Program} {w : World} {K : PySem.W.Frag} {mg : Str → Option Value} {base : Heap}
def spUsed : Sp := fun vs H Q _ => ∃ t bs rs z place n l r, vs = [.ref t, .str z, .int place, .int (n : Nat)] ∧ H t = some (.tup (bs.map V.ref)) ∧ RulesAt H bs rs ∧ rs[n]? = some (l, r) ∧ z.length ≤ 1000 ∧ l.length ≤ 4 ∧ r.length ≤ 1 ∧ Q (.str (usedS z place l r)) H
theorem ok_used (B : Wp.Blt mg) {f : Addr} {fd : FuncData} (F : Fun K "used" "used" s_used f fd) : FnOk P w K mg base CX0 1 f fd ["rules", "text", "place", "number"] spUsed := by
  refine F.ok sc_used (fun vs H Q E h => ?_) (fun cdv A outer s H vs Q E hr h => ?_)
  · obtain ⟨t, bs, rs, z, place, n, l, r, rfl, _⟩ := h
    rfl
  · obtain ⟨t, bs, rs, z, place, n, l, r, rfl, ht, hb, hn, hz, hl, hr1, q⟩ := h
    refine ⟨_, (pss_cons (ps_asg (pe_ix (Wp.wx_seq (K := K)) (pv 0) (pv 3) (fun _ _ => rfl)) (Wp.wg_tup (K := K) (n := 2) rfl (pgs_cons (pg_name (i := 4) sc_used.nd rfl (by first | exact .inl rfl | exact .inr rfl)) (pgs_cons (pg_name (i := 5) sc_used.nd rfl (by first | exact .inl rfl | exact .inr rfl)) pgs_nil))))
  (pss_one (ps_ret (pe_op (wo_add (K := K)) (pe_op (wo_add (K := K)) (pe_slice (ws_any (K := K)) (pv 1) po_none (po_some (pv 2))) (pv 5)) (pe_slice (ws_any (K := K)) (pv 1) (po_some (pe_op (wo_add (K := K)) (pv 2) (pe_callB (Wp.wc_len (K := K)) (by rfl) B.len (by decide +kernel) (pa_cons (pv 4) pa_nil)))) po_none))))), ?_⟩
    refine Wp.st (σ' := [some (.ref t), some (.str z), some (.int place), some (.int (n : Nat)), none, none]) rfl ?_
    obtain ⟨b, hb1, hb2⟩ := hb.get hn
    replace hb2 : H b = some (.tup [.str l, .str r]) := hb2
    have e : atI (bs.map V.ref) ((n : Nat) : Int) = some (.ref b) := atI_nat (by rw [List.getElem?_map, hb1]; rfl)
    repeat walk_at "W"
    refine Wp.ixt (SqT.of ht) e ?_
    repeat walk_at "W"
    refine Wp.gt (SqT.of hb2) rfl ?_
    repeat walk_at "W"
    refine sls hz ?_
    repeat walk_at "W"
    have c1 := cutS_le z none (some place)
    have hbig : (1000000 : Nat) < sizeLine := by decide
    refine Wp.addS (by omega) ?_
    repeat walk_at "W"
    refine Wp.lenS (by omega) ?_
    repeat walk_at "W"
    refine sls hz ?_
    have c2 := cutS_le z (some (place + (l.length : Nat))) none
    have c3 := len_app (cutS z none (some place)) r
    refine Wp.addS (by omega) ?_
    repeat walk_at "W"
    exact q
def spOvt : Sp := fun vs H Q _ => ∃ l p o, vs = [.str l, .int p, .str o] ∧ l.length ≤ 1000 ∧ o.length ≤ 1000 ∧ (ovText l p o = none → Q .non H) ∧ (∀ z, ovText l p o = some z → Q (.str z) H)
theorem ok_ovt (B : Wp.Blt mg) {f : Addr} {fd : FuncData} (F : Fun K "overlap_text" "overlap_text" s_overlap_text f fd) : FnOk P w K mg base CX0 1 f fd ["left", "place", "other"] spOvt := by
  refine F.ok sc_overlap_text (fun vs H Q E h => ?_) (fun cdv A outer s H vs Q E hr h => ?_)
  · obtain ⟨l, p, o, rfl, _⟩ := h
    rfl
  · obtain ⟨l, p, o, rfl, hl, ho, q1, q2⟩ := h
    refine ⟨_, (pss_cons (ps_set (i := 3) sc_overlap_text.nd rfl (by first | exact .inl rfl | exact .inr rfl) (pe_callB (Wp.wc_min rfl) (by rfl) B.min (by decide +kernel) (pa_cons (pe_op op_sub (pe_callB (Wp.wc_len (K := K)) (by rfl) B.len (by decide +kernel) (pa_cons (pv 0) pa_nil)) (pv 1)) (pa_cons (pe_callB (Wp.wc_len (K := K)) (by rfl) B.len (by decide +kernel) (pa_cons (pv 2) pa_nil)) pa_nil))))
  (pss_cons (ps_if (pt_cmpR (wo_ne (K := K) hr.units) (pe_slice (ws_any (K := K)) (pv 0) (po_some (pv 1)) (po_some (pe_op (wo_add (K := K)) (pv 1) (pv 3)))) (pe_slice (ws_any (K := K)) (pv 2) po_none (po_some (pv 3))) (nomark _)) (pss_one (ps_ret pe_non)) pss_nil)
  (pss_one (ps_ret (pe_op (wo_add (K := K)) (pv 0) (pe_slice (ws_any (K := K)) (pv 2) (po_some (pv 3)) po_none)))))), ?_⟩
    refine Wp.st (σ' := [some (.str l), some (.int p), some (.str o), none]) rfl ?_
    have hbig : (1000000 : Nat) < sizeLine := by decide
    repeat walk_at "W"
    refine Wp.lenS (by omega) ?_
    repeat walk_at "W"
    refine Wp.lenS (by omega) ?_
    refine Wp.nil ?_
    refine Wp.min2 ?_
    generalize hbo : (if (o.length : Int) < (l.length : Int) - p then (o.length : Int) else (l.length : Int) - p) = both
    have hbo : bothOf l p o = both := hbo
    repeat walk_at "W"
    refine sls hl ?_
    repeat walk_at "W"
    refine sls ho ?_
    repeat walk_at "W"
    refine Wp.itn (fun e1 => ?_) (fun e1 => ?_)
    · repeat walk_at "W"
      refine q1 ?_
      unfold ovText; rw [hbo]; exact if_neg e1
    · repeat walk_at "W"
      refine sls ho ?_
      have := cutS_le o (some both) none
      refine Wp.addS (by omega) ?_
      repeat walk_at "W"
      refine q2 _ ?_
      unfold ovText; rw [hbo]; exact if_pos e1
end
end K57
set_option Elab.async false
set_option linter.all false
set_option maxRecDepth 100000
set_option maxHeartbeats 8000000
namespace K57
open PySem PySem.Spec PyProof.Rows L2 Bk
open Wp (wo_lt wo_le wo_gt wo_ge wo_eq wo_ne wo_in wo_nin wo_add wo_mul op_shlB ws_any wc_int wc_isi u65)
local macro_rules | `(tactic| walk_at "W") => `(tactic| first
  | (with_reducible first
    | refine Wp.seq ?_ | refine Wp.asg ?_ | refine Wp.ret ?_ | refine Wp.retN ?_ | refine Wp.drop ?_ | refine Wp.nxt ?_ | refine Wp.ifs ?_ | refine Wp.gname ?_
    | refine Wp.op ?_ | refine Wp.un ?_ | refine Wp.tst ?_ | refine Wp.tb' ?_ | refine Wp.tnot ?_ | refine Wp.tand ?_ | refine Wp.tor ?_ | refine Wp.tandV ?_ | refine Wp.torV ?_ | refine Wp.tnotV ?_ | refine Wp.tif ?_ | refine Wp.tchain ?_
    | refine Wp.cb ?_ | refine Wp.call ?_ | refine Wp.cons ?_ | refine Wp.nil ?_ | refine Wp.gsub ?_ | refine Wp.cst ?_ | refine Wp.i0 ?_ | refine Wp.int1 ?_ | refine Wp.eb ?_ | refine Wp.ei ?_
    | refine Wp.gnil ?_ | refine Wp.gcons ?_ | refine Wp.mko ?_ | refine Wp.bm ?_ | refine Wp.ienum ?_ | refine Wp.tru ?_ | refine Wp.u1 ?_ | refine Wp.for_ ?_ | refine Wp.lc ?_ | refine Wp.istr ?_ | refine Wp.ilist ?_ | refine Wp.itup ?_ | refine Wp.irng1 ?_ | refine Wp.irng2 ?_ | refine Wp.yes ?_ | refine Wp.es ?_ | refine Wp.er ?_ | refine Wp.sl ?_ | refine Wp.nopart ?_ | refine Wp.part ?_ | refine Wp.lst ?_ | refine Wp.tup ?_
    | refine Wp.din ?_ | refine Wp.dnotin ?_ | refine Wp.dget ?_ | refine Wp.dget2 ?_ | refine Wp.dput ?_ | refine Wp.dnewK ?_ | refine Wp.dnewT ?_ | refine Wp.bm0 ?_ | refine Wp.m1 ?_ | refine Wp.exs ?_ | refine Wp.is0 ?_ | refine Wp.isnot0 ?_ | refine Wp.fld ?_ | refine Wp.sfld ?_
    | refine Wp.par ?_ | refine Wp.parV ?_ | refine Wp.brk ?_ | refine Wp.aug ?_ | refine Wp.ipaI ?_ | refine Wp.ipsI ?_ | refine Bk.ienumS ?_ | refine Wp.make_ ?_ | refine Wp.itnn ?_ | refine Wp.ltI ?_ | refine Wp.leI ?_ | refine Wp.leS ?_ | refine Wp.inSg ?_ | refine Wp.gtI ?_ | refine Wp.geI ?_ | refine Wp.eqI ?_ | refine Wp.neI ?_ | refine Wp.addI ?_ | refine Wp.ltS ?_ | refine Wp.eqS ?_ | refine Wp.neS ?_)
  | ((with_reducible refine' Wp.var ?hv ?_); (case hv => exact rfl))
  | ((with_reducible refine' Wp.ixl ?hs ?he ?_); (case hs => first | exact SqL.of upd_same | exact SqL.of (by assumption) | assumption); (case he => exact rfl))
  | ((with_reducible refine' Wp.setl ?hs ?he ?_); (case hs => first | exact upd_same | assumption); (case he => exact rfl))
  | ((with_reducible refine' Wp.modP ?hs ?_); (case hs => first | decide | omega))
  | ((with_reducible refine' Wp.divN ?hs ?ht ?_); (case hs => first | decide | omega); (case ht => first | decide | omega))
  | ((with_reducible refine' Wp.mulM ?hs ?ht ?_); (case hs => decide); (case ht => decide))
  | ((with_reducible refine' Wp.mulL ?hs ?_); (case hs => omega))
  | ((with_reducible refine' Wp.mulR ?hs ?_); (case hs => omega))
  | ((with_reducible refine' Wp.powS ?hs ?_); (case hs => decide))
  | ((with_reducible refine' Wp.shr ?hs ?_); (case hs => decide))
  | ((with_reducible refine' Wp.szl ?hs ?_); (case hs => first | decide | (simp; done)))
  | ((with_reducible refine' Wp.lenL ?hs ?_); (case hs => first | exact SqL.of upd_same | exact SqL.of (by assumption) | assumption))
  | ((with_reducible refine' Wp.lenT ?hs ?_); (case hs => first | exact SqT.of upd_same | exact SqT.of (by assumption) | assumption))
  | ((with_reducible refine' Wp.iteC ?hs ?_); (case hs => exact rfl)) | ((with_reducible refine' Wp.iteD ?hs ?_); (case hs => exact Bool.false_ne_true))
  | ((with_reducible refine' Wp.wp ?hs ?_); (case hs => rfl))
  | (with_reducible first | refine Wp.abs ?_ | refine Wp.max2 ?_ | refine Wp.min2 ?_)
  | ((with_reducible refine' Wp.sll ?hs ?_); (case hs => first | exact SqL.of upd_same | exact SqL.of (by assumption) | assumption)))
local macro_rules | `(tactic| walk_at "KQ") => `(tactic| first
  | exact Wp.kq "int" rfl (by decide +kernel) | exact Wp.kq "bool" rfl (by decide +kernel) | exact Wp.kq "str" rfl (by decide +kernel) | exact Wp.kq "list" rfl (by decide +kernel)
  | exact Wp.kq "tuple" rfl (by decide +kernel) | exact Wp.kq "NoneType" rfl (by decide +kernel) | exact Wp.kq "dict" rfl (by decide +kernel))

section
variable {P : Program} {w : World} {K : PySem.W.Frag} {mg : Str → Option Value} {base : Heap}
def spOvS (K : PySem.W.Frag) : Sp := fun vs H Q _ => ∃ t bs rs, vs = [.ref t] ∧ H t = some (.tup (bs.map V.ref)) ∧ RulesAt H bs rs ∧ rs.length ≤ 64 ∧ Good rs ∧
  ∀ H' t2 (ws : List V) (os : List Ov), Same H H' → H' t2 = some (.tup ws) → OvSorted os (ovAll rs) → OvsAt H' ws os → (∀ o ∈ os, ovOk rs.length o) → Q (.ref t2) H'
theorem ok_ovS (B : Wp.Blt mg) {f fO : Addr} {fd fdO : FuncData} (F : Fun K "overlaps_of" "overlaps_of" s_overlaps_of f fd)
    (D_overlap_text : Wp.Dh K mg "overlap_text" fO fdO ["left", "place", "other"]) (G_overlap_text : FnOk P w K mg base CX0 1 fO fdO ["left", "place", "other"] spOvt) : FnOk P w K mg base CX0 2 f fd ["rules"] (spOvS K) := by
  refine F.ok sc_overlaps_of (fun vs H Q E h => ?_) (fun cdv A outer s H vs Q E hr h => ?_)
  · obtain ⟨t, bs, rs, rfl, _⟩ := h
    rfl
  · obtain ⟨t, bs, rs, rfl, ht, hb, hl, hg, q⟩ := h
    refine ⟨_, (pss_cons (ps_set (i := 1) sc_overlaps_of.nd rfl (by first | exact .inl rfl | exact .inr rfl) (pe_lst pa_nil))
  (pss_cons (ps_for PassesOwn.never rfl (Wp.wi_enum (K := K) (by rfl) B.enumerate (pa_cons (pv 0) pa_nil)) (Wp.wg_tup (K := K) (n := 2) rfl (pgs_cons (pg_name (i := 2) sc_overlaps_of.nd rfl (by first | exact .inl rfl | exact .inr rfl)) (pgs_cons (Wp.wg_tup (K := K) (n := 2) rfl (pgs_cons (pg_name (i := 3) sc_overlaps_of.nd rfl (by first | exact .inl rfl | exact .inr rfl)) (pgs_cons (pg_name (i := 4) sc_overlaps_of.nd rfl (by first | exact .inl rfl | exact .inr rfl)) pgs_nil))) pgs_nil))) (pss_one (ps_for PassesOwn.never rfl (Wp.wi_enum (K := K) (by rfl) B.enumerate (pa_cons (pv 0) pa_nil)) (Wp.wg_tup (K := K) (n := 2) rfl (pgs_cons (pg_name (i := 5) sc_overlaps_of.nd rfl (by first | exact .inl rfl | exact .inr rfl)) (pgs_cons (Wp.wg_tup (K := K) (n := 2) rfl (pgs_cons (pg_name (i := 6) sc_overlaps_of.nd rfl (by first | exact .inl rfl | exact .inr rfl)) (pgs_cons (pg_name (i := 4) sc_overlaps_of.nd rfl (by first | exact .inl rfl | exact .inr rfl)) pgs_nil))) pgs_nil))) (pss_one (ps_for PassesOwn.never rfl (pi_range2 (by rfl) B.range (pa_cons (pe_ifExp (pt_cmpR wo_lt (pv 2) (pv 5) (nomark _)) pe_int pe_int) (pa_cons (pe_callB (Wp.wc_len (K := K)) (by rfl) B.len (by decide +kernel) (pa_cons (pv 3) pa_nil)) pa_nil))) (pg_name (i := 7) sc_overlaps_of.nd rfl (by first | exact .inl rfl | exact .inr rfl)) (pss_cons (ps_set (i := 8) sc_overlaps_of.nd rfl (by first | exact .inl rfl | exact .inr rfl) (pe_call G_overlap_text (hr.mono (by decide)) (by rfl) D_overlap_text.g D_overlap_text.k D_overlap_text.b .nil pass0 (pa_cons (pv 3) (pa_cons (pv 7) (pa_cons (pv 6) pa_nil)))))
  (pss_one (ps_if (pt_cmpR Wp.wo_isnot (pv 8) pe_non (nomark _)) (pss_one (ps_expr (Wp.wbm (K := K) (pe_bm PySem.F.plainAttrs_list PySem.F.slot_list_append PySem.F.type_list_append mt_append (pv 1) (pa_cons (pe_tup (pa_cons (pe_callB (Wp.wc_len (K := K)) (by rfl) B.len (by decide +kernel) (pa_cons (pv 8) pa_nil)) (pa_cons (pv 8) (pa_cons (pv 2) (pa_cons (pv 7) (pa_cons (pv 5) pa_nil)))))) pa_nil))))) pss_nil))))))))
  (pss_one (ps_ret (pe_callTy (Wp.wc_tuple (K := K)) (by rfl) B.tuple (by decide +kernel) (pa_cons (pe_lc (own := [("_", 4), ("text", 8), ("one", 2), ("place", 7), ("other", 5)]) (g := (Wp.gTupU K 5 (gCons (gName 4) (gCons (gName 8) (gCons (gName 2) (gCons (gName 7) (gCons (gName 5) gNil))))))) (by rfl) sc_overlaps_of.nd (Wp.wi_list (K := K) (pe_callB (Wp.wc_sorted (K := K) (u65 hr)) (by rfl) B.sorted (by decide +kernel) (pa_cons (pv 1) pa_nil))) (blkOk_by (own := [("_", 4), ("text", 8), ("one", 2), ("place", 7), ("other", 5)]) (N := N_overlaps_of) (sc := defScope s_overlaps_of) (by decide +kernel)) (fun _ _ _ _ _ => Wp.wg_tup (K := K) (n := 5) rfl (pgs_cons (pg_name (i := 4) sc_overlaps_of.nd rfl (Or.inl rfl)) (pgs_cons (pg_name (i := 8) sc_overlaps_of.nd rfl (Or.inl rfl)) (pgs_cons (pg_name (i := 2) sc_overlaps_of.nd rfl (Or.inl rfl)) (pgs_cons (pg_name (i := 7) sc_overlaps_of.nd rfl (Or.inl rfl)) (pgs_cons (pg_name (i := 5) sc_overlaps_of.nd rfl (Or.inl rfl)) pgs_nil)))))) (fun _ _ _ _ _ => pts_nil) (fun _ _ _ _ _ => (pe_tup (pa_cons (pv 8) (pa_cons (pv 2) (pa_cons (pv 7) (pa_cons (pv 5) pa_nil))))))) pa_nil)))))), ?_⟩
    refine Wp.st (σ' := [some (.ref t), none, none, none, none, none, none, none, none]) rfl ?_
    have hbl := hb.len
    have hbig : (1000000 : Nat) < sizeLine := by decide
    repeat walk_at "W"
    intro F hF
    have sF := Wp.same_upd (o := .lst []) hF
    have upF : ∀ {G : Hp} (o : HO), Same H G → Same H (upd G F o) := fun o s b u e => by rw [upd_ne (ne_of_none e hF)]; exact s _ _ e
    repeat walk_at "W"
    refine ⟨t, bs.map V.ref, rfl, Wp.enumU (.inr (SqT.of ht)) sF (fun i σ1 H1 => ∃ x2 x3 x4 x5 x6 x7 x8, σ1 = [some (.ref t), some (.ref F), x2, x3, x4, x5, x6, x7, x8] ∧ Same H H1 ∧ FoundE K H1 F rs.length (ovTo rs i) (i * 256)) ⟨_, _, _, _, _, _, _, rfl, sF, ⟨[], upd_same, .nil, (fun _ z => nomatch z), Nat.zero_le _⟩⟩ (fun i σ1 H1 ⟨_, _, _, _, _, _, _, _, h, _⟩ => h) ?_ ?_⟩
    · rintro i x σ1 H1 T hx ⟨x2, x3, x4, x5, x6, x7, x8, rfl, s1, hFo⟩ hT
      obtain ⟨b, ⟨l, r⟩, rfl, hp, hbt⟩ := rulesAt_take hb hx
      replace hbt : H b = some (.tup [.str l, .str r]) := hbt
      have smT := Wp.same_upd (p := T) (o := .tup [.int (i : Nat), .ref b]) hT
      have sT := s1.trans smT
      have hi := (List.getElem?_eq_some_iff.mp hp).1
      obtain ⟨gl, gr, gt⟩ := hg _ (List.mem_of_getElem? hp)
      simp only at gl gr gt
      have hFo := hFo.same smT
      refine Wp.gt (SqT.of upd_same) rfl ?_
      repeat walk_at "W"
      refine Wp.gt (SqT.of (sT _ _ hbt)) rfl ?_
      repeat walk_at "W"
      refine ⟨t, bs.map V.ref, rfl, Wp.enumU (.inr (SqT.of ht)) sT (fun j σ2 H2 => ∃ x4 x5 x6 x7 x8, σ2 = [some (.ref t), some (.ref F), some (.int (i : Nat)), some (.str l), x4, x5, x6, x7, x8] ∧ Same H H2 ∧ FoundE K H2 F rs.length (ovTo rs i ++ ovRowTo rs i j) (i * 256 + j * 4)) ⟨_, _, _, _, _, rfl, sT, by simpa [ovRowTo] using hFo⟩ (fun j σ2 H2 ⟨_, _, _, _, _, _, h, _⟩ => h) ?_ ?_⟩
      · rintro j y σ2 H2 T2 hy ⟨y4, y5, y6, y7, y8, rfl, s2, hFo⟩ hT2
        obtain ⟨b2, ⟨l2, r2⟩, rfl, hp2, hbt2⟩ := rulesAt_take hb hy
        replace hbt2 : H b2 = some (.tup [.str l2, .str r2]) := hbt2
        have smT2 := Wp.same_upd (p := T2) (o := .tup [.int (j : Nat), .ref b2]) hT2
        have sT2 := s2.trans smT2
        have hj := (List.getElem?_eq_some_iff.mp hp2).1
        obtain ⟨gl2, gr2, gt2⟩ := hg _ (List.mem_of_getElem? hp2)
        simp only at gl2 gr2 gt2
        have hFo := hFo.same smT2
        refine Wp.gt (SqT.of upd_same) rfl ?_
        repeat walk_at "W"
        refine Wp.gt (SqT.of (sT2 _ _ hbt2)) rfl ?_
        repeat walk_at "W"
        refine Wp.itd (fun e1 => ?_) (fun e1 => ?_)
        all_goals
          repeat walk_at "W"
          refine Wp.lenS (by omega) ?_
          repeat walk_at "W"
          refine ⟨_, _, rfl, ⟨by omega, by omega, by omega, by omega⟩, ?_⟩
          refine Wp.forIt walk_range (fun k σ3 H3 => ∃ y7 y8, σ3 = [some (.ref t), some (.ref F), some (.int (i : Nat)), some (.str l), some (.str r2), some (.int (j : Nat)), some (.str l2), y7, y8] ∧ Same H H3 ∧ FoundE K H3 F rs.length (ovTo rs i ++ ovRowTo rs i j ++ ovCellTo i j l l2 k) (i * 256 + j * 4 + k)) ⟨_, _, rfl, sT2, by simpa [ovCellTo] using hFo⟩ (fun _ _ _ _ _ => trivial) ?_ ?_
          · rintro k v σ3 H3 H3' hk ⟨z7, z8, rfl, s3, hFo3⟩ ⟨rfl, hv⟩
            obtain ⟨pl, hpl, hpl3, hst⟩ : ∃ pl : Nat, v = .int (pl : Nat) ∧ pl ≤ 3 ∧ pl = ovStart i j + k := by
              first
              | exact ⟨k, by rw [hv]; exact congrArg V.int (by omega), by omega, by unfold ovStart; rw [if_pos (by omega)]; omega⟩
              | exact ⟨k + 1, by rw [hv]; exact congrArg V.int (by omega), by omega, by unfold ovStart; rw [if_neg (by omega)]; omega⟩
            subst hpl
            obtain ⟨ws, f1, f2, f3, f4⟩ := hFo3.ex
            repeat walk_at "W"
            refine ⟨l, (pl : Nat), l2, rfl, by omega, by omega, fun e => ?_, fun z e => ?_⟩
            · repeat walk_at "W"
              refine ⟨_, _, rfl, s3, ?_⟩
              rw [ovCellTo_none (by rw [← hst]; exact e), ← List.append_assoc, List.append_nil]
              exact hFo3.mono (by omega)
            · have hzl := ovText_le e
              repeat walk_at "W"
              refine Wp.tyl f1 ?_
              repeat walk_at "W"
              refine Wp.lenS (by omega) ?_
              repeat walk_at "W"
              intro T3 hT3
              have u3 := Wp.same_upd (o := .tup [.int (z.length : Nat), .str z, .int (i : Nat), .int (pl : Nat), .int (j : Nat)]) hT3
              repeat walk_at "W"
              have hwl := Wp.dps_len f2
              rw [List.length_map] at hwl
              refine Wp.app (u3 _ _ f1) (by omega) ?_
              repeat walk_at "W"
              refine ⟨_, _, rfl, upF _ (s3.trans u3), ?_⟩
              rw [ovCellTo_some (by rw [← hst]; exact e), ← List.append_assoc, ← hst]
              have := FoundE.push (o := (z, i, pl, j)) (n := rs.length) (u3 _ _ f1) (Wp.dps_same u3 _ _ f2) f3 f4 ⟨by show z.length ≤ 8; omega, hi, hpl3, hj⟩ (.tup (SqT.of upd_same) (.cons (.int _) (.cons (.str _) (.cons (.int _) (.cons (.int _) (.cons (.int _) .nil))))))
              exact this.mono (by omega)
          · rintro σ3 H3 ⟨z7, z8, rfl, s3, hFo3⟩
            refine ⟨_, _, _, _, _, rfl, s3, ?_⟩
            rw [ovRowTo_succ hp hp2, ← List.append_assoc]
            obtain ⟨n9, en, h9⟩ : ∃ n : Nat, n = l.length - ovStart i j ∧ FoundE K H3 F rs.length (ovTo rs i ++ ovRowTo rs i j ++ ovCellTo i j l l2 n) (i * 256 + j * 4 + n) := by
              first
              | exact ⟨_, by unfold ovStart; rw [if_pos (by omega)]; omega, hFo3⟩
              | exact ⟨_, by unfold ovStart; rw [if_neg (by omega)]; omega, hFo3⟩
            rw [en] at h9
            exact h9.mono (by omega)
      · rintro σ2 H2 ⟨y4, y5, y6, y7, y8, rfl, s2, hFo⟩
        rw [List.length_map, hbl] at hFo
        refine ⟨_, _, _, _, _, _, _, rfl, s2, ?_⟩
        rw [ovTo_succ]
        exact hFo.mono (by omega)
    · rintro σ1 H1 ⟨x2, x3, x4, x5, x6, x7, x8, rfl, s1, hFo⟩
      rw [List.length_map, hbl] at hFo
      obtain ⟨ws, f1, f2, f3, f4⟩ := hFo.ex
      change DpAll K H1 ws ((ovAll rs).map ov5) at f2
      generalize hos : ovAll rs = os at f2
      change ∀ o ∈ ovAll rs, _ at f3
      change (ovAll rs).length ≤ _ at f4
      rw [hos] at f3 f4
      have hwl := Wp.dps_len f2
      rw [List.length_map] at hwl
      repeat walk_at "W"
      refine ⟨F, ws, os.map ov5, rfl, SqL.of f1, f2, ov5_alike os, ov5_sortable os, (fun d hd => by obtain ⟨o, _, rfl⟩ := List.mem_map.mp hd; exact ov5_depth o), fun zs p hperm hzs hp => ?_⟩
      have u1 := Wp.same_upd (o := .lst (zs.map (·.1))) hp
      have hzl : zs.length ≤ 20000 := by rw [hperm.length_eq, List.length_zip]; omega
      obtain ⟨hsrt, hse⟩ := OvSorted.of hwl hperm hzs
      generalize hos2 : (zs.map fun q => dec5 q.2) = os2 at hsrt hse
      have hl2 : os2.length = zs.length := by rw [← hos2, List.length_map]
      refine ⟨p, rfl, ⟨_, SqL.of upd_same⟩, fun A hA => ?_⟩
      have hAp : A ≠ p := fun z => by rw [z, upd_same] at hA; cases hA
      refine Wp.lcIt (walk_list (xs := zs.map (·.1))) (fun i H2 => Same (upd H1 p (.lst (zs.map (·.1)))) H2 ∧ ∃ ws' : List V, H2 A = some (.lst ws') ∧ ws'.length = i ∧ ∀ (k : Nat) (o : Ov), k < i → os2[k]? = some o → ∃ T : Addr, ws'[k]? = some (V.ref T) ∧ H2 T = some (.tup [.str o.1, .int (o.2.1 : Nat), .int (o.2.2.1 : Nat), .int (o.2.2.2 : Nat)])) ⟨Wp.same_upd hA, [], upd_same, rfl, fun k o h => by omega⟩ (fun i H2 _ h => SqL.of (h.1 _ _ upd_same)) ?_ ?_
      · rintro i x H2 H2' hi ⟨s2, ws', hw2, hll2, hw⟩ ⟨rfl, hx⟩
        rw [List.length_map] at hi
        rw [List.getElem?_map] at hx
        obtain ⟨qz, hqz, rfl⟩ := Option.map_eq_some_iff.mp hx
        have hmem := hperm.mem_iff.mp (List.mem_of_getElem? hqz)
        have hdq := Wp.dp_same (u1.trans s2) _ _ (dps_zip f2 _ hmem)
        obtain ⟨o, ho⟩ : ∃ o, os2[i]? = some o := ⟨_, List.getElem?_eq_getElem (show i < os2.length by omega)⟩
        have heq : ov5 o = qz.2 := by
          have h1 : (os2.map ov5)[i]? = some (ov5 o) := by rw [List.getElem?_map, ho]; rfl
          rw [hse, List.getElem?_map, hqz] at h1
          exact (Option.some.inj h1).symm
        rw [← heq] at hdq
        generalize qz.1 = xv at hdq ⊢
        cases hdq with
        | @tup a ys _ hs ha =>
        cases ha with
        | cons a1 ha =>
        cases ha with
        | cons a2 ha =>
        cases ha with
        | cons a3 ha =>
        cases ha with
        | cons a4 ha =>
        cases ha with
        | cons a5 ha =>
        cases ha; cases a1; cases a2; cases a3; cases a4; cases a5
        refine Wp.gt hs rfl ?_
        repeat walk_at "W"
        intro T hT
        have u2 := Wp.same_upd (o := .tup [.str o.1, .int (o.2.1 : Nat), .int (o.2.2.1 : Nat), .int (o.2.2.2 : Nat)]) hT
        have hTA : T ≠ A := fun z => by rw [z, hw2] at hT; cases hT
        repeat walk_at "W"
        refine ⟨ws', u2 _ _ hw2, by omega, fun b u e => ?_, _, upd_same, by rw [List.length_append, hll2]; rfl, fun k o' hk ho' => ?_⟩
        · rw [upd_ne (ne_of_none e hA)]; exact u2 _ _ (s2 _ _ e)
        · rcases (show k < i ∨ k = i by omega) with z | z
          · obtain ⟨T', e1, e3⟩ := hw k o' z ho'
            have h9 := u2 _ _ e3
            exact ⟨T', by rw [List.getElem?_append_left (by omega)]; exact e1, by rw [upd_ne (ne_of h9 (u2 _ _ hw2) (by intro z; cases z))]; exact h9⟩
          · subst z
            rw [ho] at ho'; cases ho'
            exact ⟨T, by rw [List.getElem?_append_right (by omega), hll2, Nat.sub_self]; rfl, by rw [upd_ne hTA]; exact upd_same⟩
      · rintro H2 ⟨s2, ws', hw2, hll2, hw⟩
        rw [List.length_map] at hll2 hw
        repeat walk_at "W"
        refine Wp.tupL (SqL.of hw2) fun t2 ht2 => ?_
        have u2 := Wp.same_upd (o := .tup ws') ht2
        rw [← hos] at hsrt f3
        refine q _ t2 ws' os2 (((s1.trans u1).trans s2).trans u2) upd_same hsrt ⟨by omega, fun k o ho => ?_⟩ (fun o ho => f3 o (hsrt.perm.mem_iff.mp ho))
        obtain ⟨T', e1, e3⟩ := hw k o (by have := (List.getElem?_eq_some_iff.mp ho).1; omega) ho
        exact ⟨T', e1, u2 _ _ e3⟩
end
end K57
set_option Elab.async false
set_option linter.all false
set_option maxRecDepth 100000
set_option maxHeartbeats 8000000
namespace K57
open PySem PySem.Spec PyProof.Rows L2 Bk
open Wp (Keep wo_lt wo_le wo_gt wo_ge wo_eq wo_ne wo_in wo_nin wo_add wo_mul op_shlB ws_any wc_int wc_isi u65)
abbrev s_quarrel_of : Stmt := topS 33
abbrev N_quarrel_of : List Str := ["rules", "rights", "over", "text", "one", "place", "other", "aims", "aim"]
theorem sc_quarrel_of : FnScope N_quarrel_of ["rules"] (defScope s_quarrel_of) := ⟨rfl, rfl, rfl, by decide +kernel, rfl, by decide +kernel, by decide +kernel⟩
abbrev s_Book___init__ : Stmt := inClass (topS 35) 0
abbrev N_Book___init__ : List Str := ["self", "signs", "rules"]
theorem sc_Book___init__ : FnScope N_Book___init__ ["self", "signs", "rules"] (defScope s_Book___init__) := ⟨rfl, rfl, rfl, by decide +kernel, rfl, by decide +kernel, by decide +kernel⟩
local macro_rules | `(tactic| walk_at "W") => `(tactic| first
  | (with_reducible first
    | refine Wp.seq ?_ | refine Wp.asg ?_ | refine Wp.ret ?_ | refine Wp.retN ?_ | refine Wp.drop ?_ | refine Wp.nxt ?_ | refine Wp.ifs ?_ | refine Wp.gname ?_
    | refine Wp.op ?_ | refine Wp.un ?_ | refine Wp.tst ?_ | refine Wp.tb' ?_ | refine Wp.tnot ?_ | refine Wp.tand ?_ | refine Wp.tor ?_ | refine Wp.tandV ?_ | refine Wp.torV ?_ | refine Wp.tnotV ?_ | refine Wp.tif ?_ | refine Wp.tchain ?_
    | refine Wp.cb ?_ | refine Wp.call ?_ | refine Wp.cons ?_ | refine Wp.nil ?_ | refine Wp.gsub ?_ | refine Wp.cst ?_ | refine Wp.i0 ?_ | refine Wp.int1 ?_ | refine Wp.eb ?_ | refine Wp.ei ?_
    | refine Wp.gnil ?_ | refine Wp.gcons ?_ | refine Wp.mko ?_ | refine Wp.bm ?_ | refine Wp.ienum ?_ | refine Wp.tru ?_ | refine Wp.u1 ?_ | refine Wp.for_ ?_ | refine Wp.lc ?_ | refine Wp.istr ?_ | refine Wp.ilist ?_ | refine Wp.itup ?_ | refine Wp.irng1 ?_ | refine Wp.irng2 ?_ | refine Wp.yes ?_ | refine Wp.es ?_ | refine Wp.er ?_ | refine Wp.sl ?_ | refine Wp.nopart ?_ | refine Wp.part ?_ | refine Wp.lst ?_ | refine Wp.tup ?_
    | refine Wp.din ?_ | refine Wp.dnotin ?_ | refine Wp.dget ?_ | refine Wp.dget2 ?_ | refine Wp.dput ?_ | refine Wp.dnewK ?_ | refine Wp.dnewT ?_ | refine Wp.bm0 ?_ | refine Wp.m1 ?_ | refine Wp.exs ?_ | refine Wp.is0 ?_ | refine Wp.isnot0 ?_ | refine Wp.fld ?_ | refine Wp.sfld ?_
    | refine Wp.par ?_ | refine Wp.parV ?_ | refine Wp.brk ?_ | refine Wp.aug ?_ | refine Wp.ipaI ?_ | refine Wp.ipsI ?_ | refine Bk.ienumS ?_ | refine Wp.make_ ?_ | refine Wp.itnn ?_ | refine Wp.ltI ?_ | refine Wp.leI ?_ | refine Wp.leS ?_ | refine Wp.inSg ?_ | refine Wp.gtI ?_ | refine Wp.geI ?_ | refine Wp.eqI ?_ | refine Wp.neI ?_ | refine Wp.addI ?_ | refine Wp.ltS ?_ | refine Wp.eqS ?_ | refine Wp.neS ?_)
  | ((with_reducible refine' Wp.var ?hv ?_); (case hv => exact rfl))
  | ((with_reducible refine' Wp.ixl ?hs ?he ?_); (case hs => first | exact SqL.of upd_same | exact SqL.of (by assumption) | assumption); (case he => exact rfl))
  | ((with_reducible refine' Wp.setl ?hs ?he ?_); (case hs => first | exact upd_same | assumption); (case he => exact rfl))
  | ((with_reducible refine' Wp.modP ?hs ?_); (case hs => first | decide | omega))
  | ((with_reducible refine' Wp.divN ?hs ?ht ?_); (case hs => first | decide | omega); (case ht => first | decide | omega))
  | ((with_reducible refine' Wp.mulM ?hs ?ht ?_); (case hs => decide); (case ht => decide))
  | ((with_reducible refine' Wp.mulL ?hs ?_); (case hs => omega))
  | ((with_reducible refine' Wp.mulR ?hs ?_); (case hs => omega))
  | ((with_reducible refine' Wp.powS ?hs ?_); (case hs => decide))
  | ((with_reducible refine' Wp.shr ?hs ?_); (case hs => decide))
  | ((with_reducible refine' Wp.szl ?hs ?_); (case hs => first | decide | (simp; done)))
  | ((with_reducible refine' Wp.lenL ?hs ?_); (case hs => first | exact SqL.of upd_same | exact SqL.of (by assumption) | assumption))
  | ((with_reducible refine' Wp.lenT ?hs ?_); (case hs => first | exact SqT.of upd_same | exact SqT.of (by assumption) | assumption))
  | ((with_reducible refine' Wp.iteC ?hs ?_); (case hs => exact rfl)) | ((with_reducible refine' Wp.iteD ?hs ?_); (case hs => exact Bool.false_ne_true))
  | ((with_reducible refine' Wp.wp ?hs ?_); (case hs => rfl))
  | (with_reducible first | refine Wp.abs ?_ | refine Wp.max2 ?_ | refine Wp.min2 ?_)
  | ((with_reducible refine' Wp.sll ?hs ?_); (case hs => first | exact SqL.of upd_same | exact SqL.of (by assumption) | assumption)))
local macro_rules | `(tactic| walk_at "KQ") => `(tactic| first
  | exact Wp.kq "int" rfl (by decide +kernel) | exact Wp.kq "bool" rfl (by decide +kernel) | exact Wp.kq "str" rfl (by decide +kernel) | exact Wp.kq "list" rfl (by decide +kernel)
  | exact Wp.kq "tuple" rfl (by decide +kernel) | exact Wp.kq "NoneType" rfl (by decide +kernel) | exact Wp.kq "dict" rfl (by decide +kernel))

section
variable {P : Program} {w : World} {K : PySem.W.Frag} {mg : Str → Option Value} {base : Heap}
def spQuarS : Sp := fun vs H Q _ => ∃ t bs rs, vs = [.ref t] ∧ H t = some (.tup (bs.map V.ref)) ∧ RulesAt H bs rs ∧ rs.length ≤ 64 ∧ Good rs ∧
  ∀ H' v os, Same H H' → OvSorted os (ovAll rs) → QuarAt rs os v → Q v H'
theorem ok_quarS (B : Wp.Blt mg) {f fR fO fU fL : Addr} {fd fdR fdO fdU fdL : FuncData} (F : Fun K "quarrel_of" "quarrel_of" s_quarrel_of f fd)
    (D_first_rights : Wp.Dh K mg "first_rights" fR fdR ["rules"]) (G_first_rights : FnOk P w K mg base CX0 1 fR fdR ["rules"] spRights)
    (D_overlaps_of : Wp.Dh K mg "overlaps_of" fO fdO ["rules"]) (G_overlaps_of : FnOk P w K mg base CX0 2 fO fdO ["rules"] (spOvS K))
    (D_used : Wp.Dh K mg "used" fU fdU ["rules", "text", "place", "number"]) (G_used : FnOk P w K mg base CX0 1 fU fdU ["rules", "text", "place", "number"] spUsed)
    (D_left_over : Wp.Dh K mg "left_over" fL fdL ["rights", "text"]) (G_left_over : FnOk P w K mg base CX0 3 fL fdL ["rights", "text"] spLeft) : FnOk P w K mg base CX0 4 f fd ["rules"] spQuarS := by
  refine F.ok sc_quarrel_of (fun vs H Q E h => ?_) (fun cdv A outer s H vs Q E hr h => ?_)
  · obtain ⟨t, bs, rs, rfl, _⟩ := h
    rfl
  · obtain ⟨t, bs, rs, rfl, ht, hb, hl, hg, q⟩ := h
    refine ⟨_, (pss_cons (ps_set (i := 1) sc_quarrel_of.nd rfl (by first | exact .inl rfl | exact .inr rfl) (pe_call G_first_rights (hr.mono (by decide)) (by rfl) D_first_rights.g D_first_rights.k D_first_rights.b .nil pass0 (pa_cons (pv 0) pa_nil)))
  (pss_cons (ps_set (i := 2) sc_quarrel_of.nd rfl (by first | exact .inl rfl | exact .inr rfl) pe_dnewK)
  (pss_cons (ps_for PassesOwn.never rfl (Wp.wi_tup (K := K) (pe_call G_overlaps_of (hr.mono (by decide)) (by rfl) D_overlaps_of.g D_overlaps_of.k D_overlaps_of.b .nil pass0 (pa_cons (pv 0) pa_nil))) (Wp.wg_tup (K := K) (n := 4) rfl (pgs_cons (pg_name (i := 3) sc_quarrel_of.nd rfl (by first | exact .inl rfl | exact .inr rfl)) (pgs_cons (pg_name (i := 4) sc_quarrel_of.nd rfl (by first | exact .inl rfl | exact .inr rfl)) (pgs_cons (pg_name (i := 5) sc_quarrel_of.nd rfl (by first | exact .inl rfl | exact .inr rfl)) (pgs_cons (pg_name (i := 6) sc_quarrel_of.nd rfl (by first | exact .inl rfl | exact .inr rfl)) pgs_nil))))) (pss_cons (ps_set (i := 7) sc_quarrel_of.nd rfl (by first | exact .inl rfl | exact .inr rfl) (pe_lst (pa_cons (pe_call G_used (hr.mono (by decide)) (by rfl) D_used.g D_used.k D_used.b .nil pass0 (pa_cons (pv 0) (pa_cons (pv 3) (pa_cons pe_int (pa_cons (pv 4) pa_nil))))) (pa_cons (pe_call G_used (hr.mono (by decide)) (by rfl) D_used.g D_used.k D_used.b .nil pass0 (pa_cons (pv 0) (pa_cons (pv 3) (pa_cons (pv 5) (pa_cons (pv 6) pa_nil))))) pa_nil))))
  (pss_cons (ps_for PassesOwn.never rfl (Wp.wi_list (K := K) (pv 7)) (pg_name (i := 8) sc_quarrel_of.nd rfl (by first | exact .inl rfl | exact .inr rfl)) (pss_one (ps_if (pt_cmp (pc_dnotin (hu_of hr) (pv 8) (pv 2))) (pss_one (ps_dput (hu_of hr) (pv 2) (pv 8) (pe_call G_left_over (hr.mono (by decide)) (by rfl) D_left_over.g D_left_over.k D_left_over.b .nil pass0 (pa_cons (pv 1) (pa_cons (pv 8) pa_nil))) rfl)) pss_nil)))
  (pss_one (ps_if (pt_cmpR (wo_ne (K := K) hr.units) (pe_dget (hu_of hr) (pv 2) (pe_ix (Wp.wx_seq (K := K)) (pv 7) pe_int (fun _ _ => rfl)) (fun _ _ => rfl)) (pe_dget (hu_of hr) (pv 2) (pe_ix (Wp.wx_seq (K := K)) (pv 7) pe_int (fun _ _ => rfl)) (fun _ _ => rfl)) (nomark _)) (pss_one (ps_ret (pv 3))) pss_nil)))))
  (pss_one (ps_ret pe_non))))), ?_⟩
    refine Wp.st (σ' := [some (.ref t), none, none, none, none, none, none, none, none]) rfl ?_
    have hbl := hb.len
    have hbig : (1000000 : Nat) < sizeLine := by decide
    repeat walk_at "W"
    refine ⟨t, bs, rs, rfl, ht, hb, hl, fun H1 d s1 hR => ?_⟩
    repeat walk_at "W"
    intro O hO
    have sO := Wp.same_upd (o := .dK []) hO
    have s2 := s1.trans sO
    have hO0 : H O = none := s1.free hO
    have upO : ∀ {G : Hp} (o : HO), Same (upd H1 O (.dK [])) G → Same H1 (upd G O o) := fun o s b u e => by
      rw [upd_ne (ne_of_none e hO)]; exact s _ _ (sO _ _ e)
    repeat walk_at "W"
    refine ⟨t, bs, rs, rfl, s2 _ _ ht, hb.same s2, hl, hg, fun H3 t2 ws os s3 ht2 hso hws hok => ?_⟩
    have hwl : ws.length ≤ 20000 := by rw [hws.len]; exact ovs_few hso hl hg
    refine ⟨t2, rfl, ⟨_, SqT.of ht2⟩, ?_⟩
    have hO3 := s3 _ _ (upd_same (H := H1) (a := O) (o := .dK []))
    have kp1 : ∀ {G : Hp}, Keep O H3 G → Same H1 G := fun k b u e => k b u (ne_of_none e hO) (s3 _ _ (sO _ _ e))
    have kpo : ∀ {G : Hp} {kvs : List (Key × V)} {b : Addr} {xs : List V}, Keep O H3 G → H3 b = some (.tup xs) → G b = some (.tup xs) := fun {G kvs b xs} k e => k b _ (ne_of e hO3 (by intro z; cases z)) e
    refine Wp.forIt (walk_tup (xs := ws)) (fun i σ1 G => ∃ x3 x4 x5 x6 x7 x8, σ1 = [some (.ref t), some (.ref d), some (.ref O), x3, x4, x5, x6, x7, x8] ∧ Keep O H3 G ∧ ∃ kvs : List (Key × V), G O = some (.dK kvs) ∧ kvs.length ≤ 2 * i ∧ (∀ x v, valV kvs (Sum.inr x) = some v → v = .str (mkS (overP rs (cl x)))) ∧ ∀ (m : Nat) (o' : Ov), m < i → os[m]? = some o' → meets rs o')
      ⟨_, _, _, _, _, _, rfl, Keep.refl _ _, [], hO3, by simp, fun x v e => (nomatch e), fun m o' h => by omega⟩ (fun i σ1 G _ ⟨_, _, _, _, _, _, _, k, _⟩ => SqT.of (kpo (kvs := []) k ht2)) ?_ ?_
    · rintro i x σ1 G G' hi ⟨x3, x4, x5, x6, x7, x8, rfl, k1, kvs, hk, hkl, hks, hmt⟩ ⟨rfl, hx⟩
      obtain ⟨⟨z, one, place, other⟩, hoi⟩ : ∃ o, os[i]? = some o := ⟨_, List.getElem?_eq_getElem (show i < os.length by rw [← hws.len]; exact hi)⟩
      obtain ⟨T, hx', hT⟩ := hws.at_ i _ hoi
      rw [hx] at hx'; cases hx'
      obtain ⟨ho1, ho2, ho3, ho4⟩ := hok _ (List.mem_of_getElem? hoi)
      simp only at ho1 ho2 ho3 ho4
      replace hT : H3 T = some (.tup [.str z, .int (one : Nat), .int (place : Nat), .int (other : Nat)]) := hT
      have sG := s1.trans (kp1 k1)
      obtain ⟨⟨l1, r1⟩, hr1⟩ : ∃ p, rs[one]? = some p := ⟨_, List.getElem?_eq_getElem ho2⟩
      obtain ⟨⟨l2, r2⟩, hr2⟩ : ∃ p, rs[other]? = some p := ⟨_, List.getElem?_eq_getElem ho4⟩
      obtain ⟨g1, g2, g3⟩ := hg _ (List.mem_of_getElem? hr1)
      obtain ⟨g4, g5, g6⟩ := hg _ (List.mem_of_getElem? hr2)
      simp only at g1 g2 g3 g4 g5 g6
      have hul1 := usedS_le z 0 l1 r1
      have hul2 := usedS_le z (place : Nat) l2 r2
      have hil : i < 20000 := by omega
      refine Wp.gt (SqT.of (kpo (kvs := kvs) k1 hT)) rfl ?_
      iterate 9 walk_at "W"
      refine Wp.cutQ (fun σ' G2 => ∃ L x8, σ' = [some (.ref t), some (.ref d), some (.ref O), some (.str z), some (.int (one : Nat)), some (.int (place : Nat)), some (.int (other : Nat)), some (.ref L), x8] ∧ Same G' G2 ∧ G' L = none ∧ G2 L = some (.lst [.str (usedS z 0 l1 r1), .str (usedS z (place : Nat) l2 r2)])) (fun nx hn => ?_) ?_
      · repeat walk_at "W"
        refine ⟨t, bs, rs, z, 0, one, l1, r1, rfl, sG _ _ ht, hb.same sG, hr1, by omega, by omega, by omega, ?_⟩
        repeat walk_at "W"
        refine ⟨t, bs, rs, z, (place : Nat), other, l2, r2, rfl, sG _ _ ht, hb.same sG, hr2, by omega, by omega, by omega, ?_⟩
        repeat walk_at "W"
        intro L hL
        repeat walk_at "W"
        exact hn _ _ ⟨L, _, rfl, Wp.same_upd hL, hL, upd_same⟩
      rintro σ' G2 ⟨L, y8, rfl, sL, hL0, hL⟩
      have hmeet : meets rs (z, one, place, other) ↔ overP rs (cl (usedS z 0 l1 r1)) = overP rs (cl (usedS z (place : Nat) l2 r2)) := by
        unfold meets
        simp only
        rw [lf_of hr1, rt_of hr1, lf_of hr2, rt_of hr2]
      generalize usedS z 0 l1 r1 = u1 at hL hul1 hmeet
      generalize usedS z (place : Nat) l2 r2 = u2 at hL hul2 hmeet
      have k2 : Keep O H3 G2 := k1.trans (Keep.of sL)
      have hk2 := sL _ _ hk
      have hLO : L ≠ O := fun e => by rw [e, hk2] at hL; cases hL
      refine Wp.cutQ (fun σ' G' => ∃ x8, σ' = [some (.ref t), some (.ref d), some (.ref O), some (.str z), some (.int (one : Nat)), some (.int (place : Nat)), some (.int (other : Nat)), some (.ref L), x8] ∧ Keep O G2 G' ∧ ∃ kvs : List (Key × V), G' O = some (.dK kvs) ∧ kvs.length ≤ 2 * i + 2 ∧ (∀ x v, valV kvs (Sum.inr x) = some v → v = .str (mkS (overP rs (cl x)))) ∧ ∀ (m : Nat) u, m < 2 → [u1, u2][m]? = some u → (valV kvs (Sum.inr u)).isSome = true) (fun nx hn => ?_) ?_
      · repeat walk_at "W"
        refine ⟨⟨_, SqL.of hL⟩, Wp.forIt (walk_list (xs := [.str u1, .str u2])) (fun j σ1 G' => ∃ x8, σ1 = [some (.ref t), some (.ref d), some (.ref O), some (.str z), some (.int (one : Nat)), some (.int (place : Nat)), some (.int (other : Nat)), some (.ref L), x8] ∧ Keep O G2 G' ∧ ∃ kvs : List (Key × V), G' O = some (.dK kvs) ∧ kvs.length ≤ 2 * i + j ∧ (∀ x v, valV kvs (Sum.inr x) = some v → v = .str (mkS (overP rs (cl x)))) ∧ ∀ (m : Nat) u, m < j → [u1, u2][m]? = some u → (valV kvs (Sum.inr u)).isSome = true)
          ⟨_, rfl, Keep.refl _ _, kvs, hk2, by omega, hks, fun m u h => by omega⟩ (fun j σ1 G' _ ⟨_, _, k, _⟩ => SqL.of (k _ _ hLO hL)) ?_ ?_⟩
        · rintro j x σ1 G3 G3' hj ⟨z8, rfl, k3, kvs3, hk3, hl3, hs3, hm3⟩ ⟨rfl, hx⟩
          have hj2 : j < 2 := hj
          obtain ⟨u, hu, rfl, hul⟩ : ∃ u, [u1, u2][j]? = some u ∧ x = .str u ∧ u.length ≤ 1000 := by
            rcases (show j = 0 ∨ j = 1 by omega) with e | e
            · subst e; cases hx; exact ⟨u1, rfl, rfl, by omega⟩
            · subst e; cases hx; exact ⟨u2, rfl, rfl, by omega⟩
          repeat walk_at "W"
          refine Wp.dK_in hk3 ?_
          repeat walk_at "W"
          refine Wp.itnb (fun e1 => ?_) (fun e1 => ?_)
          · repeat walk_at "W"
            refine ⟨d, rs, u, rfl, hR.same (kp1 (k2.trans k3)), hg, hul, fun G4 s4 => ?_⟩
            have hk4 := s4 _ _ hk3
            repeat walk_at "W"
            refine Wp.dK_put hk4 (by omega) ?_
            have hn : valV kvs3 (Sum.inr u) = none := by
              cases e : valV kvs3 (Sum.inr u) with
              | none => rfl
              | some _ => rw [e] at e1; cases e1
            refine ⟨_, rfl, (k3.trans (Keep.of s4)).trans (Keep.upd O _ _), _, upd_same, ?_, fun x v e => ?_, fun m u' hm hu' => ?_⟩
            · have := length_putK kvs3 (Sum.inr u) (V.str (mkS (overP rs (cl u))))
              omega
            · rw [valV_put] at e
              split at e
              · rename_i hxe
                cases hxe; cases e; rfl
              · exact hs3 x v e
            · rw [valV_put]
              split
              · rfl
              · rename_i hne
                rcases (show m < j ∨ m = j by omega) with h | h
                · exact hm3 m u' h hu'
                · subst h; rw [hu] at hu'; cases hu'; exact absurd rfl hne
          · repeat walk_at "W"
            refine ⟨_, rfl, k3, kvs3, hk3, by omega, hs3, fun m u' hm hu' => ?_⟩
            rcases (show m < j ∨ m = j by omega) with h | h
            · exact hm3 m u' h hu'
            · subst h; rw [hu] at hu'; cases hu'; exact e1
        · rintro σ1 G3 ⟨z8, rfl, k3, kvs3, hk3, hl3, hs3, hm3⟩
          exact hn _ _ ⟨_, rfl, k3, kvs3, hk3, hl3, hs3, hm3⟩
      rintro σ' G3 ⟨z8, rfl, k3, kvs3, hk3, hl3, hs3, hm3⟩
      have hL3 := k3 _ _ hLO hL
      obtain ⟨v1, hv1⟩ := Option.isSome_iff_exists.mp (hm3 0 u1 (by omega) rfl)
      obtain ⟨v2, hv2⟩ := Option.isSome_iff_exists.mp (hm3 1 u2 (by omega) rfl)
      obtain rfl := hs3 _ _ hv1
      obtain rfl := hs3 _ _ hv2
      repeat walk_at "W"
      refine Wp.dK_get hk3 hv1 ?_
      repeat walk_at "W"
      refine Wp.dK_get hk3 hv2 ?_
      repeat walk_at "W"
      refine Wp.itn (fun e1 => ?_) (fun e1 => ?_)
      · repeat walk_at "W"
        refine q _ _ os (s1.trans (kp1 (k2.trans k3))) hso (.inr ⟨i, _, hoi, fun h => ?_, hmt, rfl⟩)
        exact e1 (by rw [hmeet.mp h])
      · repeat walk_at "W"
        refine ⟨_, _, _, _, _, _, rfl, k2.trans k3, kvs3, hk3, by omega, hs3, fun m o' hm ho' => ?_⟩
        rcases (show m < i ∨ m = i by omega) with h | h
        · exact hmt m o' h ho'
        · subst h
          rw [hoi] at ho'; cases ho'
          refine hmeet.mpr ?_
          rw [← cl_mk (overP rs (cl u1)), e1, cl_mk]
    · rintro σ1 G ⟨x3, x4, x5, x6, x7, x8, rfl, k1, kvs, hk, hkl, hks, hmt⟩
      repeat walk_at "W"
      refine q _ _ os (s1.trans (kp1 k1)) hso (.inl ⟨rfl, fun o ho => ?_⟩)
      obtain ⟨m, hm, e⟩ := List.getElem_of_mem ho
      exact hmt m o (by rw [hws.len]; exact hm) (by rw [List.getElem?_eq_getElem hm, e])
/-- the class of books, as the top has made it -/
structure BkC (K : PySem.W.Frag) (C : Addr) : Prop where
  cl : Cls K C
  nS : NoAttr K C "signs"
  nR : NoAttr K C "rules"
  nT : NoAttr K C "_rights"
  nQ : NoAttr K C "_quarrel"
def bkF (sg : Str) (t d : Addr) (q : V) : List (Str × V) := putF "_quarrel" q (putF "_rights" (.ref d) (putF "rules" (.ref t) (putF "signs" (.str sg) [])))
theorem bkF_signs (sg : Str) (t d : Addr) (q : V) : (bkF sg t d q).lookup ("signs" : Str) = some (.str sg) := by
  unfold bkF
  rw [lookup_putF, if_neg (by decide +kernel), lookup_putF, if_neg (by decide +kernel), lookup_putF, if_neg (by decide +kernel), lookup_putF, if_pos rfl]
theorem bkF_rules (sg : Str) (t d : Addr) (q : V) : (bkF sg t d q).lookup ("rules" : Str) = some (.ref t) := by
  unfold bkF
  rw [lookup_putF, if_neg (by decide +kernel), lookup_putF, if_neg (by decide +kernel), lookup_putF, if_pos rfl]
theorem bkF_quarrel (sg : Str) (t d : Addr) (q : V) : (bkF sg t d q).lookup ("_quarrel" : Str) = some q := by
  unfold bkF
  rw [lookup_putF, if_pos rfl]
/-- a book stands at p -/
structure BookAt (C : Addr) (H : Hp) (p : Addr) (sg : Str) (ps : List (Str × Str)) : Prop where
  ex : ∃ dx t bs d q, H p = some (.ins C dx (bkF sg t d q)) ∧ H t = some (.tup (bs.map V.ref)) ∧ RulesAt H bs ps ∧ RightsAt H d ps ∧ ∃ os, OvSorted os (ovAll ps) ∧ QuarAt ps os q
  g : Good ps
  l : ps.length ≤ 64
theorem BookAt.same {C : Addr} {H H' : Hp} {p : Addr} {sg : Str} {ps : List (Str × Str)} (s : Same H H') (h : BookAt C H p sg ps) : BookAt C H' p sg ps := by
  obtain ⟨dx, t, bs, d, q, h1, h2, h3, h4, h5⟩ := h.ex
  exact ⟨⟨dx, t, bs, d, q, s _ _ h1, s _ _ h2, h3.same s, h4.same s, h5⟩, h.g, h.l⟩
theorem rulesGo_good {sg : Str} : ∀ {ds : List PyData} {ps qs : List (Str × Str)} {i : Nat}, (∀ p ∈ ps, RuleOk sg p.1 p.2) → rulesGo sg ps ds i = .ok qs → (∀ p ∈ qs, RuleOk sg p.1 p.2) ∧ qs.length ≤ ps.length + ds.length
  | [], ps, qs, i, h, e => by cases e; exact ⟨h, by simp⟩
  | d :: ds, ps, qs, i, h, e => by
    rw [rulesGo] at e
    by_cases e1 : isRule sg d = false
    · rw [if_pos e1] at e; cases e
    · rw [if_neg e1] at e
      obtain ⟨l, r, hro, _, hok⟩ := isRule_of (by simpa using e1)
      rw [hro] at e
      have e' : (if (l, r) ∈ ps then Except.error i else rulesGo sg (ps ++ [(l, r)]) ds (i + 1)) = .ok qs := e
      by_cases e2 : (l, r) ∈ ps
      · rw [if_pos e2] at e'; cases e'
      · rw [if_neg e2] at e'
        obtain ⟨h1, h2⟩ := rulesGo_good (fun p hp => by
          rcases List.mem_append.mp hp with z | z
          · exact h p z
          · rw [List.mem_singleton.mp z]; exact hok) e'
        exact ⟨h1, by rw [List.length_append] at h2; simp at h2 ⊢; omega⟩
theorem rulesOf_good {sg : Str} {d : PyData} {ps : List (Str × Str)} (h : rulesOf sg d = .ok ps) : (∀ p ∈ ps, RuleOk sg p.1 p.2) ∧ ps.length ≤ 64 := by
  unfold rulesOf at h
  cases hr : Wp.row d with
  | none => rw [hr] at h; cases h
  | some ds =>
    rw [hr] at h
    have h' : (if 64 < ds.length then Except.error (-1 : Int) else match rulesGo sg [] ds 0 with
      | .error i => .error (i : Nat)
      | .ok ps => .ok ps) = .ok ps := h
    by_cases h64 : 64 < ds.length
    · rw [if_pos h64] at h'; cases h'
    · rw [if_neg h64] at h'
      cases hg : rulesGo sg [] ds 0 with
      | error i => rw [hg] at h'; cases h'
      | ok qs =>
        rw [hg] at h'
        cases h'
        obtain ⟨a, b⟩ := rulesGo_good (ps := []) (fun _ z => nomatch z) hg
        exact ⟨a, by simp at b; omega⟩
theorem good_of {sg : Str} {ps : List (Str × Str)} (h : ∀ p ∈ ps, RuleOk sg p.1 p.2) : Good ps := fun p hp => ⟨(h p hp).l4, (h p hp).r1, (h p hp).lt⟩
def spBook (K : PySem.W.Frag) (C CS CB : Addr) : Sp := fun vs H Q E => ∃ p dx sv sd v d, vs = [.ref p, sv, v] ∧ H p = some (.ins C dx []) ∧ Dp K H sv sd ∧ (∀ z, sd = .str z → z.length ≤ 16777216) ∧ Dp K H v d ∧ Wp.sm d = true ∧ Trk K H v d ∧
  (goodSigns sd = false → ∀ dd H', H dd = none → Same H H' → H' dd = some (.xd [("thing", sv)]) → E (.ref CS) (some dd) H') ∧
  (∀ sg, sd = .str sg → goodSigns sd = true →
    (∀ ps, rulesOf sg d = .ok ps → ∀ H', Wp.Keep p H H' → BookAt C H' p sg ps → Q .non H') ∧
    (∀ i : Int, rulesOf sg d = .error i → ∀ dd H', H dd = none → Wp.Keep p H H' → H' dd = some (.xd [("place", .int i)]) → E (.ref CB) (some dd) H'))
theorem ok_book (B : Wp.Blt mg) {f fS fU fR fQ C CS CB : Addr} {fd fdS fdU fdR fdQ : FuncData} (F : Fun K "__init__" "Book.__init__" s_Book___init__ f fd) (T : BkC K C)
    (D_checked_signs : Wp.Dh K mg "checked_signs" fS fdS ["thing"]) (G_checked_signs : FnOk P w K mg base (L2.CX P w) 3 fS fdS ["thing"] (spSigned K CS))
    (D_rules_of : Wp.Dh K mg "rules_of" fU fdU ["signs", "things"]) (G_rules_of : FnOk P w K mg base (L2.CX P w) 3 fU fdU ["signs", "things"] (spRules K CB))
    (D_first_rights : Wp.Dh K mg "first_rights" fR fdR ["rules"]) (G_first_rights : FnOk P w K mg base CX0 1 fR fdR ["rules"] spRights)
    (D_quarrel_of : Wp.Dh K mg "quarrel_of" fQ fdQ ["rules"]) (G_quarrel_of : FnOk P w K mg base CX0 4 fQ fdQ ["rules"] spQuarS) : FnOk P w K mg base (L2.CX P w) 5 f fd ["self", "signs", "rules"] (spBook K C CS CB) := by
  refine F.okX sc_Book___init__ (fun vs H Q E h => ?_) (fun cdv A outer s H vs Q E hr h => ?_)
  · obtain ⟨p, dx, sv, sd, v, d, rfl, _⟩ := h
    rfl
  · obtain ⟨p, dx, sv, sd, v, d, rfl, hp, hsd, hz, hd, hsm, htk, qs, qa⟩ := h
    refine ⟨_, (pss_cons (Wp.wsfld (K := K) (ps_fld (pv 0) (pe_call G_checked_signs (hr.mono (by decide)) (by rfl) D_checked_signs.g D_checked_signs.k D_checked_signs.b .nil (passes_call (takes_of rfl rfl rfl rfl) (fun _ _ _ _ h => h)) (pa_cons (pv 1) pa_nil)) rfl))
  (pss_cons (Wp.wsfld (K := K) (ps_fld (pv 0) (pe_call G_rules_of (hr.mono (by decide)) (by rfl) D_rules_of.g D_rules_of.k D_rules_of.b .nil (passes_call (takes_of rfl rfl rfl rfl) (fun _ _ _ _ h => h)) (pa_cons (pv 1) (pa_cons (pv 2) pa_nil))) rfl))
  (pss_cons (Wp.wsfld (K := K) (ps_fld (pv 0) (pe_call G_first_rights (hr.mono (by decide)) (by rfl) D_first_rights.g D_first_rights.k D_first_rights.b .nil pass0 (pa_cons (Wp.wfld (K := K) (pe_fld (pv 0) rfl)) pa_nil)) rfl))
  (pss_one (Wp.wsfld (K := K) (ps_fld (pv 0) (pe_call G_quarrel_of (hr.mono (by decide)) (by rfl) D_quarrel_of.g D_quarrel_of.k D_quarrel_of.b .nil pass0 (pa_cons (Wp.wfld (K := K) (pe_fld (pv 0) rfl)) pa_nil)) rfl)))))), ?_⟩
    refine Wp.st (σ' := [some (.ref p), some sv, some v]) rfl ?_
    repeat walk_at "W"
    refine ⟨sv, sd, rfl, hsd, hz, fun hgs => ?_, fun hb => qs hb⟩
    cases sd with
    | str sg =>
      cases hsd
      obtain ⟨qk, qe⟩ := qa sg rfl hgs
      repeat walk_at "W"
      refine ⟨p, C, dx, [], rfl, hp, T.cl, T.nS, by decide, ?_⟩
      have k1 := Keep.upd p H (.ins C dx (putF "signs" (.str sg) []))
      have hp1 : (upd H p (.ins C dx (putF "signs" (.str sg) []))) p = some (.ins C dx (putF "signs" (.str sg) [])) := upd_same
      generalize (upd H p (.ins C dx (putF "signs" (.str sg) []))) = H1 at k1 hp1 ⊢
      repeat walk_at "W"
      have fr : ∀ {b : Addr}, H1 b = none → H b = none := fun {b} e => by
        cases q : H b with
        | none => rfl
        | some o =>
          have hne : b ≠ p := fun z => by rw [z, hp1] at e; cases e
          rw [k1 _ _ hne q] at e; cases e
      refine ⟨sg, v, d, rfl, dp_ins hp k1 _ _ hd, hsm, trk_ins hp k1 htk, fun ps hps H2 t bs s2 ht hb => ?_, fun i hi dd H2 h1 s2 h3 => qe i hi dd H2 (fr h1) (k1.trans (Keep.of s2)) h3⟩
      obtain ⟨hok, h64⟩ := rulesOf_good hps
      have hgd := good_of hok
      repeat walk_at "W"
      refine ⟨p, C, dx, _, rfl, s2 _ _ hp1, T.cl, T.nR, Nat.lt_of_le_of_lt (length_putF _ _ _) (by decide), ?_⟩
      have hpt : ∀ {G : Hp} {b : Addr} {xs : List V} {fs fs' : List (Str × V)}, G p = some (.ins C dx fs) → G b = some (.tup xs) → (upd G p (.ins C dx fs')) b = some (.tup xs) := fun e1 e2 => by
        rw [upd_ne (ne_of e2 e1 (by intro z; cases z))]; exact e2
      have hrt : ∀ {G : Hp} {fs fs' : List (Str × V)} {bs : List Addr} {ps : List (Str × Str)}, G p = some (.ins C dx fs) → RulesAt G bs ps → RulesAt (upd G p (.ins C dx fs')) bs ps := by
        intro G fs fs' bs
        induction bs with
        | nil => intro ps _ h; cases ps with
          | nil => trivial
          | cons _ _ => exact h.elim
        | cons b bs ih => intro ps e h; cases ps with
          | nil => exact h.elim
          | cons q ps => exact ⟨hpt e h.1, ih e h.2⟩
      have k3 := Keep.upd p H2 (.ins C dx (putF "rules" (.ref t) (putF "signs" (.str sg) [])))
      have ht3 := hpt (fs' := putF "rules" (.ref t) (putF "signs" (.str sg) [])) (s2 _ _ hp1) ht
      have hb3 := hrt (fs' := putF "rules" (.ref t) (putF "signs" (.str sg) [])) (s2 _ _ hp1) hb
      have hp3 : (upd H2 p (.ins C dx (putF "rules" (.ref t) (putF "signs" (.str sg) [])))) p = some (.ins C dx (putF "rules" (.ref t) (putF "signs" (.str sg) []))) := upd_same
      generalize (upd H2 p (.ins C dx (putF "rules" (.ref t) (putF "signs" (.str sg) [])))) = H3 at k3 ht3 hb3 hp3 ⊢
      have k03 := (k1.trans (Keep.of s2)).trans k3
      repeat walk_at "W"
      refine ⟨p, C, dx, _, .ref t, rfl, hp3, T.cl, T.nR, by rw [lookup_putF, if_pos rfl], ?_⟩
      repeat walk_at "W"
      refine ⟨t, bs, ps, rfl, ht3, hb3, h64, fun H4 d4 s4 hR => ?_⟩
      repeat walk_at "W"
      refine ⟨p, C, dx, _, rfl, s4 _ _ hp3, T.cl, T.nT, Nat.lt_of_le_of_lt (length_putF _ _ _) (Nat.lt_of_le_of_lt (Nat.succ_le_succ (length_putF _ _ _)) (by decide)), ?_⟩
      have k5 := Keep.upd p H4 (.ins C dx (putF "_rights" (.ref d4) (putF "rules" (.ref t) (putF "signs" (.str sg) []))))
      have ht5 := hpt (fs' := putF "_rights" (.ref d4) (putF "rules" (.ref t) (putF "signs" (.str sg) []))) (s4 _ _ hp3) (s4 _ _ ht3)
      have hb5 := hrt (fs' := putF "_rights" (.ref d4) (putF "rules" (.ref t) (putF "signs" (.str sg) []))) (s4 _ _ hp3) (hb3.same s4)
      have hR5 : RightsAt (upd H4 p (.ins C dx (putF "_rights" (.ref d4) (putF "rules" (.ref t) (putF "signs" (.str sg) []))))) d4 ps := by
        obtain ⟨kvs, h1, h2, h3⟩ := hR.ex
        refine ⟨kvs, ?_, h2, fun x => (h3 x).same fun b xs e => hpt (s4 _ _ hp3) e⟩
        rw [upd_ne (ne_of h1 (s4 _ _ hp3) (by intro z; cases z))]; exact h1
      have hp5 : (upd H4 p (.ins C dx (putF "_rights" (.ref d4) (putF "rules" (.ref t) (putF "signs" (.str sg) []))))) p = some (.ins C dx (putF "_rights" (.ref d4) (putF "rules" (.ref t) (putF "signs" (.str sg) [])))) := upd_same
      generalize (upd H4 p (.ins C dx (putF "_rights" (.ref d4) (putF "rules" (.ref t) (putF "signs" (.str sg) []))))) = H5 at k5 ht5 hb5 hR5 hp5 ⊢
      have k05 := (k03.trans (Keep.of s4)).trans k5
      repeat walk_at "W"
      refine ⟨p, C, dx, _, .ref t, rfl, hp5, T.cl, T.nR, by rw [lookup_putF, if_neg (by decide +kernel), lookup_putF, if_pos rfl], ?_⟩
      repeat walk_at "W"
      refine ⟨t, bs, ps, rfl, ht5, hb5, h64, hgd, fun H6 q6 os6 s6 hso6 hq6 => ?_⟩
      repeat walk_at "W"
      refine ⟨p, C, dx, _, rfl, s6 _ _ hp5, T.cl, T.nQ, Nat.lt_of_le_of_lt (length_putF _ _ _) (Nat.lt_of_le_of_lt (Nat.succ_le_succ (length_putF _ _ _)) (Nat.lt_of_le_of_lt (Nat.succ_le_succ (Nat.succ_le_succ (length_putF _ _ _))) (by decide))), ?_⟩
      refine qk ps hps _ ((k05.trans (Keep.of s6)).trans (Keep.upd p _ _)) ⟨⟨dx, t, bs, d4, q6, upd_same, hpt (s6 _ _ hp5) (s6 _ _ ht5), hrt (s6 _ _ hp5) (hb5.same s6), ?_, os6, hso6, hq6⟩, hgd, h64⟩
      obtain ⟨kvs, h1, h2, h3⟩ := (hR5.same s6).ex
      refine ⟨kvs, ?_, h2, fun x => (h3 x).same fun b xs e => hpt (s6 _ _ hp5) e⟩
      rw [upd_ne (ne_of h1 (s6 _ _ hp5) (by intro z; cases z))]; exact h1
    | _ => cases hgs
end
end K57
set_option Elab.async false
set_option linter.all false
set_option maxRecDepth 100000
namespace K57
open PySem PySem.Spec PyProof.Rows L2
open Wp (wo_lt wo_gt wo_ge wo_eq wo_ne wo_in wo_nin wo_add wo_mul op_shlB ws_any wc_int wc_isi u65)
abbrev s__law_pick : Stmt := topS 54
abbrev N__law_pick : List Str := ["_law_source_here", "_law_many", "_law_digit", "_law_mixed"]
theorem sc__law_pick : FnScope N__law_pick ["_law_source_here", "_law_many"] (defScope s__law_pick) := ⟨rfl, rfl, rfl, by decide +kernel, rfl, by decide +kernel, by decide +kernel⟩
abbrev s__law_source : Stmt := topS 53
abbrev N__law_source : List Str := ["_law_script", "_law_place", "_law_cell", "_law_seed", "_law_one", "_law_number"]
theorem sc__law_source : FnScope N__law_source ["_law_script", "_law_place"] (defScope s__law_source) := ⟨rfl, rfl, rfl, by decide +kernel, rfl, by decide +kernel, by decide +kernel⟩

local macro_rules | `(tactic| walk_at "W") => `(tactic| first
  | (with_reducible first
    | refine Wp.seq ?_ | refine Wp.asg ?_ | refine Wp.ret ?_ | refine Wp.retN ?_ | refine Wp.drop ?_ | refine Wp.nxt ?_ | refine Wp.ifs ?_ | refine Wp.gname ?_
    | refine Wp.op ?_ | refine Wp.un ?_ | refine Wp.tst ?_ | refine Wp.tb' ?_ | refine Wp.tnot ?_ | refine Wp.tand ?_ | refine Wp.tor ?_ | refine Wp.tandV ?_ | refine Wp.torV ?_ | refine Wp.tnotV ?_ | refine Wp.tif ?_ | refine Wp.tchain ?_
    | refine Wp.cb ?_ | refine Wp.call ?_ | refine Wp.cons ?_ | refine Wp.nil ?_ | refine Wp.gsub ?_ | refine Wp.cst ?_ | refine Wp.i0 ?_ | refine Wp.int1 ?_ | refine Wp.eb ?_ | refine Wp.ei ?_
    | refine Wp.gnil ?_ | refine Wp.gcons ?_ | refine Wp.mko ?_ | refine Wp.bm ?_ | refine Wp.ienum ?_ | refine Wp.tru ?_ | refine Wp.u1 ?_ | refine Wp.for_ ?_ | refine Wp.lc ?_ | refine Wp.istr ?_ | refine Wp.ilist ?_ | refine Wp.itup ?_ | refine Wp.irng1 ?_ | refine Wp.irng2 ?_ | refine Wp.yes ?_ | refine Wp.es ?_ | refine Wp.er ?_ | refine Wp.sl ?_ | refine Wp.nopart ?_ | refine Wp.part ?_ | refine Wp.lst ?_ | refine Wp.tup ?_
    | refine Wp.din ?_ | refine Wp.dnotin ?_ | refine Wp.dget ?_ | refine Wp.dget2 ?_ | refine Wp.dput ?_ | refine Wp.dnewK ?_ | refine Wp.dnewT ?_ | refine Wp.bm0 ?_ | refine Wp.m1 ?_ | refine Wp.exs ?_ | refine Wp.is0 ?_ | refine Wp.isnot0 ?_ | refine Wp.fld ?_ | refine Wp.sfld ?_
    | refine Wp.par ?_ | refine Wp.parV ?_ | refine Wp.brk ?_ | refine Wp.aug ?_ | refine Wp.ipaI ?_ | refine Wp.ipsI ?_ | refine Bk.ienumS ?_ | refine Wp.make_ ?_ | refine Wp.itnn ?_ | refine Wp.ltI ?_ | refine Wp.leI ?_ | refine Wp.leS ?_ | refine Wp.inSg ?_ | refine Wp.gtI ?_ | refine Wp.geI ?_ | refine Wp.eqI ?_ | refine Wp.neI ?_ | refine Wp.addI ?_ | refine Wp.ltS ?_ | refine Wp.eqS ?_ | refine Wp.neS ?_)
  | ((with_reducible refine' Wp.var ?hv ?_); (case hv => exact rfl))
  | ((with_reducible refine' Wp.ixl ?hs ?he ?_); (case hs => first | exact SqL.of upd_same | exact SqL.of (by assumption) | assumption); (case he => exact rfl))
  | ((with_reducible refine' Wp.setl ?hs ?he ?_); (case hs => first | exact upd_same | assumption); (case he => exact rfl))
  | ((with_reducible refine' Wp.modP ?hs ?_); (case hs => first | decide | omega))
  | ((with_reducible refine' Wp.divN ?hs ?ht ?_); (case hs => first | decide | omega); (case ht => first | decide | omega))
  | ((with_reducible refine' Wp.mulM ?hs ?ht ?_); (case hs => decide); (case ht => decide))
  | ((with_reducible refine' Wp.mulL ?hs ?_); (case hs => omega))
  | ((with_reducible refine' Wp.mulR ?hs ?_); (case hs => omega))
  | ((with_reducible refine' Wp.powS ?hs ?_); (case hs => decide))
  | ((with_reducible refine' Wp.shr ?hs ?_); (case hs => decide))
  | ((with_reducible refine' Wp.szl ?hs ?_); (case hs => first | decide | (simp; done)))
  | ((with_reducible refine' Wp.lenL ?hs ?_); (case hs => first | exact SqL.of upd_same | exact SqL.of (by assumption) | assumption))
  | ((with_reducible refine' Wp.lenT ?hs ?_); (case hs => first | exact SqT.of upd_same | exact SqT.of (by assumption) | assumption))
  | ((with_reducible refine' Wp.iteC ?hs ?_); (case hs => exact rfl)) | ((with_reducible refine' Wp.iteD ?hs ?_); (case hs => exact Bool.false_ne_true))
  | ((with_reducible refine' Wp.wp ?hs ?_); (case hs => rfl))
  | (with_reducible first | refine Wp.abs ?_ | refine Wp.max2 ?_ | refine Wp.min2 ?_)
  | ((with_reducible refine' Wp.sll ?hs ?_); (case hs => first | exact SqL.of upd_same | exact SqL.of (by assumption) | assumption)))
local macro_rules | `(tactic| walk_at "KQ") => `(tactic| first
  | exact Wp.kq "int" rfl (by decide +kernel) | exact Wp.kq "bool" rfl (by decide +kernel) | exact Wp.kq "str" rfl (by decide +kernel) | exact Wp.kq "list" rfl (by decide +kernel)
  | exact Wp.kq "tuple" rfl (by decide +kernel) | exact Wp.kq "NoneType" rfl (by decide +kernel) | exact Wp.kq "dict" rfl (by decide +kernel))

/-- a source of draws at a: a list of three ints -/
def Src (H : Hp) (a : Addr) : Prop := ∃ d s c : Int, H a = some (.lst [.int d, .int s, .int c])
def spPick : Sp := fun vs H Q _ => ∃ (a : Addr) (m : Int), vs = [.ref a, .int m] ∧ Src H a ∧ 0 < m ∧ m < 1000000 ∧
  ∀ (r : Int) (H' : Hp), 0 ≤ r → r < m → Wp.Keep a H H' → Src H' a → Q (.int r) H'
section
variable {P : Program} {w : World} {K : PySem.W.Frag} {mg : Str → Option Value} {base : Heap}
theorem ok_pick (B : Wp.Blt mg) {f : Addr} {fd : FuncData} (F : Fun K "_law_pick" "_law_pick" s__law_pick f fd) : FnOk P w K mg base CX0 1 f fd ["_law_source_here", "_law_many"] spPick := by
  refine F.ok sc__law_pick (fun vs H Q E h => ?_) (fun cdv A outer s H vs Q E hr h => ?_)
  · obtain ⟨a, m, rfl, _⟩ := h
    rfl
  · obtain ⟨a, m, rfl, ⟨d, s, c, ha⟩, hm0, hm1, q⟩ := h
    refine ⟨_, (pss_cons (ps_if (pt_cmpR wo_gt (pe_ix (Wp.wx_seq (K := K)) (pv 0) pe_int (fun _ _ => rfl)) pe_int (nomark _)) (pss_cons (ps_set (i := 2) sc__law_pick.nd rfl (by first | exact .inl rfl | exact .inr rfl) (pe_op op_modN (pe_callTy wc_int (by rfl) B.int (by decide +kernel) (pa_cons (pe_ix (Wp.wx_seq (K := K)) (pv 0) pe_int (fun _ _ => rfl)) pa_nil)) (pv 1)))
  (pss_cons (ps_asg (pe_op op_fdivN (pe_ix (Wp.wx_seq (K := K)) (pv 0) pe_int (fun _ _ => rfl)) (pv 1)) (pg_sub (pv 0) pe_int set_list))
  (pss_one (ps_ret (pv 2))))) pss_nil)
  (pss_cons (ps_asg (pe_op (wo_add (K := K)) (pe_ix (Wp.wx_seq (K := K)) (pv 0) pe_int (fun _ _ => rfl)) pe_int) (pg_sub (pv 0) pe_int set_list))
  (pss_cons (ps_set (i := 3) sc__law_pick.nd rfl (by first | exact .inl rfl | exact .inr rfl) (pe_op op_modN (pe_callTy wc_int (by rfl) B.int (by decide +kernel) (pa_cons (pe_op wo_mul (pe_op (wo_add (K := K)) (pe_ix (Wp.wx_seq (K := K)) (pv 0) pe_int (fun _ _ => rfl)) (pe_op wo_mul pe_int (pe_ix (Wp.wx_seq (K := K)) (pv 0) pe_int (fun _ _ => rfl)))) pe_int) pa_nil)) pe_int))
  (pss_cons (ps_set (i := 3) sc__law_pick.nd rfl (by first | exact .inl rfl | exact .inr rfl) (pe_op op_modN (pe_callTy wc_int (by rfl) B.int (by decide +kernel) (pa_cons (pe_op (wo_add (K := K)) (pe_op (wo_add (K := K)) (pe_op wo_mul (pv 3) (pv 3)) (pe_op wo_mul pe_int (pe_ix (Wp.wx_seq (K := K)) (pv 0) pe_int (fun _ _ => rfl)))) (pe_ix (Wp.wx_seq (K := K)) (pv 0) pe_int (fun _ _ => rfl))) pa_nil)) pe_int))
  (pss_cons (ps_set (i := 3) sc__law_pick.nd rfl (by first | exact .inl rfl | exact .inr rfl) (pe_op op_modN (pe_callTy wc_int (by rfl) B.int (by decide +kernel) (pa_cons (pe_op (wo_add (K := K)) (pe_op wo_mul (pv 3) pe_int) pe_int) pa_nil)) pe_int))
  (pss_cons (ps_set (i := 3) sc__law_pick.nd rfl (by first | exact .inl rfl | exact .inr rfl) (pe_op op_modN (pe_callTy wc_int (by rfl) B.int (by decide +kernel) (pa_cons (pe_op (wo_add (K := K)) (pe_op wo_mul (pv 3) (pv 3)) (pv 3)) pa_nil)) pe_int))
  (pss_one (ps_ret (pe_op op_modN (pe_callTy wc_int (by rfl) B.int (by decide +kernel) (pa_cons (pe_op op_fdivN (pv 3) pe_int) pa_nil)) (pv 1)))))))))), ?_⟩
    refine Wp.st (σ' := [some (.ref a), some (.int m), none, none]) rfl ?_
    repeat walk_at "W"
    refine Wp.itd (fun h0 => ?_) (fun h0 => ?_)
    · repeat walk_at "W"
      exact q _ _ (Wp.fm hm0).1 (Wp.fm hm0).2 (Wp.Keep.upd _ _ _) ⟨_, _, _, upd_same⟩
    · repeat walk_at "W"
      exact q _ _ (Wp.fm hm0).1 (Wp.fm hm0).2 (Wp.Keep.upd _ _ _) ⟨_, _, _, upd_same⟩
/-- a new source -/
def spSource (K : PySem.W.Frag) : Sp := fun vs H Q _ => ∃ (a : Addr) (ns : List Int) (k : Int), vs = [.ref a, .int k] ∧ SqL K H a (ns.map V.int) ∧ ns.length ≤ 63 ∧ (∀ z ∈ ns, Builtin.Int.intBits z ≤ 1048576) ∧ 0 ≤ k ∧ k < 1000 ∧
  ∀ H' p, Same H H' → H p = none → Src H' p → Q (.ref p) H'
theorem ok_source (B : Wp.Blt mg) {f : Addr} {fd : FuncData} (F : Fun K "_law_source" "_law_source" s__law_source f fd) : FnOk P w K mg base CX0 1 f fd ["_law_script", "_law_place"] (spSource K) := by
  refine F.ok sc__law_source (fun vs H Q E h => ?_) (fun cdv A outer s H vs Q E hr h => ?_)
  · obtain ⟨a, ns, k, rfl, _⟩ := h
    rfl
  · obtain ⟨a, ns, k, rfl, hS, hlen, hbits, hk0, hk1, q⟩ := h
    refine ⟨_, (pss_cons (ps_set (i := 2) sc__law_source.nd rfl (by first | exact .inl rfl | exact .inr rfl) (pe_ifExp (pt_cmpR wo_lt (pv 1) (pe_callB (Wp.wc_len (K := K)) (by rfl) B.len (by decide +kernel) (pa_cons (pv 0) pa_nil)) (nomark _)) (pe_ix (Wp.wx_seq (K := K)) (pv 0) (pv 1) (fun _ _ => rfl)) (pe_op (wo_add (K := K)) (pe_op wo_mul pe_int (pv 1)) pe_int)))
  (pss_cons (ps_set (i := 3) sc__law_source.nd rfl (by first | exact .inl rfl | exact .inr rfl) (pe_op (wo_add (K := K)) (pe_op wo_mul pe_int (pv 1)) pe_int))
  (pss_cons (ps_for PassesOwn.never rfl (Wp.wi_list (K := K) (pe_slice (ws_any (K := K)) (pv 0) po_none (po_some pe_int))) (pg_name (i := 4) sc__law_source.nd rfl (by first | exact .inl rfl | exact .inr rfl)) (pss_one (ps_set (i := 3) sc__law_source.nd rfl (by first | exact .inl rfl | exact .inr rfl) (pe_op op_modN (pe_callTy wc_int (by rfl) B.int (by decide +kernel) (pa_cons (pe_op (wo_add (K := K)) (pe_op wo_mul (pv 3) pe_int) (pe_op op_modN (pe_callTy wc_int (by rfl) B.int (by decide +kernel) (pa_cons (pv 4) pa_nil)) pe_int)) pa_nil)) pe_int))))
  (pss_cons (ps_set (i := 3) sc__law_source.nd rfl (by first | exact .inl rfl | exact .inr rfl) (pe_op op_modN (pe_callTy wc_int (by rfl) B.int (by decide +kernel) (pa_cons (pe_op (wo_add (K := K)) (pe_op wo_mul (pv 3) pe_int) (pe_op op_modN (pe_callTy wc_int (by rfl) B.int (by decide +kernel) (pa_cons (pv 2) pa_nil)) pe_int)) pa_nil)) pe_int))
  (pss_cons (ps_set (i := 5) sc__law_source.nd rfl (by first | exact .inl rfl | exact .inr rfl) (pe_callB Wp.wc_abs (by rfl) B.abs (by decide +kernel) (pa_cons (pv 2) pa_nil)))
  (pss_cons (ps_if (pt_cmpR wo_lt (pv 5) (pe_op op_pow pe_int pe_int) (nomark _)) (pss_one (ps_ret (pe_lst (pa_cons pe_int (pa_cons (pv 3) (pa_cons pe_int pa_nil)))))) pss_nil)
  (pss_cons (ps_if (pt_cmpR wo_gt (pe_op op_shr (pv 5) pe_int) pe_int (nomark _)) (pss_one (ps_set (i := 5) sc__law_source.nd rfl (by first | exact .inl rfl | exact .inr rfl) (pe_op op_sub (pv 5) (pe_op op_shlB (pe_op op_shr (pv 5) pe_int) pe_int)))) pss_nil)
  (pss_one (ps_ret (pe_lst (pa_cons (pv 5) (pa_cons (pv 3) (pa_cons pe_int pa_nil))))))))))))), ?_⟩
    refine Wp.st (σ' := [some (.ref a), some (.int k), none, none, none, none]) rfl ?_
    refine Wp.cutQ (fun σ' H' => ∃ c : Int, Builtin.Int.intBits c ≤ 1048576 ∧ σ' = [some (.ref a), some (.int k), some (.int c), none, none, none] ∧ H' = H) (fun nx hn => ?_) ?_
    · repeat walk_at "W"
      refine Wp.itd (fun h0 => ?_) (fun h0 => ?_)
      · have hk : k.toNat < ns.length := by rw [List.length_map] at h0; omega
        have e : (ns.map V.int)[k.toNat]? = some (.int ns[k.toNat]) := by
          rw [List.getElem?_map, List.getElem?_eq_getElem hk]; rfl
        have e2 : atI (ns.map V.int) k = some (.int ns[k.toNat]) := by
          have q := atI_nat e
          rw [Int.toNat_of_nonneg hk0] at q
          exact q
        repeat walk_at "W"
        refine Wp.ixl hS e2 ?_
        repeat walk_at "W"
        exact hn _ _ ⟨_, hbits _ (List.getElem_mem hk), rfl, rfl⟩
      · repeat walk_at "W"
        refine hn _ _ ⟨_, Nat.le_trans (intBits_le_64 (by omega) (by omega)) (by decide), rfl, rfl⟩
    rintro σ' H' ⟨c, hc, rfl, rfl⟩
    repeat walk_at "W"
    intro p hp
    have hp1 := Wp.same_upd (H := H') (p := p) (o := .lst (cutV (ns.map V.int) none (some 4))) hp
    refine ⟨p, rfl, ⟨_, SqL.of upd_same⟩, Wp.forIt (walk_list (xs := cutV (ns.map V.int) none (some 4))) (fun i σ1 H1 => (∃ (s : Int) (x : Option V), σ1 = [some (.ref a), some (.int k), some (.int c), some (.int s), x, none]) ∧ Same (upd H' p (.lst (cutV (ns.map V.int) none (some 4)))) H1) ⟨⟨_, _, rfl⟩, Same.refl _⟩
      (fun i σ1 H1 _ h => SqL.of (h.2 _ _ upd_same)) ?_ ?_⟩
    · rintro i x σ1 H1 H2 hi ⟨⟨s1, y, rfl⟩, sm⟩ ⟨rfl, hx⟩
      obtain ⟨n, hn, rfl⟩ : ∃ n : Int, n ∈ ns ∧ x = .int n := by
        have hm := List.mem_of_getElem? hx
        unfold cutV at hm
        have hm2 := List.mem_of_mem_drop (List.mem_of_mem_take hm)
        obtain ⟨n, h1, h2⟩ := List.mem_map.mp hm2
        exact ⟨n, h1, h2.symm⟩
      repeat walk_at "W"
      exact ⟨⟨_, _, rfl⟩, sm⟩
    rintro σ1 H1 ⟨⟨s1, x, rfl⟩, sm0⟩
    have sm := hp1.trans sm0
    repeat walk_at "W"
    refine Wp.itd (fun h0 => ?_) (fun h0 => ?_)
    · repeat walk_at "W"
      intro p hp
      exact q _ p (sm.trans (Wp.same_upd hp)) (sm.free hp) ⟨_, _, _, upd_same⟩
    · repeat walk_at "W"
      refine Wp.itd (fun h1 => ?_) (fun h1 => ?_)
      · repeat walk_at "W"
        refine Wp.shl ⟨by decide, ?_⟩ ?_
        · have := Wp.bitsShr 2500 hc
          have e : Int.toNat 2500 = 2500 := rfl
          rw [e]
          omega
        repeat walk_at "W"
        intro p hp
        exact q _ p (sm.trans (Wp.same_upd hp)) (sm.free hp) ⟨_, _, _, upd_same⟩
      · repeat walk_at "W"
        intro p hp
        exact q _ p (sm.trans (Wp.same_upd hp)) (sm.free hp) ⟨_, _, _, upd_same⟩
def menu : List Str := ["ab", "abc", "ab", "ac", "abc", "bz", "a", "bcd", "ab", "kmz", "abc", "xy"]
def spSigns : Sp := fun vs H Q _ => ∃ (a : Addr), vs = [.ref a] ∧ Src H a ∧ ∀ z H', z ∈ menu → Src H' a → Wp.Keep a H H' → Q (.str z) H'
end
theorem sg_ix {sg : Str} {r : Int} (h0 : 0 ≤ r) (h1 : r < (sg.length : Int)) : ∃ c, c ∈ sg.cps.toList ∧ atI sg.cps.toList r = some c := by
  have hl : sg.length = sg.cps.toList.length := by rw [Array.length_toList]; rfl
  have hk : r.toNat < sg.cps.toList.length := by omega
  refine ⟨_, List.getElem_mem hk, ?_⟩
  have q := atI_nat (List.getElem?_eq_getElem hk)
  rw [Int.toNat_of_nonneg h0] at q
  exact q
end K57
set_option Elab.async false
set_option linter.all false
set_option maxRecDepth 100000
set_option maxHeartbeats 8000000
namespace K57
open PySem PySem.Spec PyProof.Rows L2 Bk
open Wp (Keep wo_lt wo_le wo_gt wo_ge wo_eq wo_ne wo_in wo_nin wo_add wo_mul op_shlB ws_any wc_int wc_isi u65)
abbrev s__law_text : Stmt := topS 55
abbrev N__law_text : List Str := ["_law_source_here", "_law_signs", "_law_most", "_law_told", "_law_k"]
theorem sc__law_text : FnScope N__law_text ["_law_source_here", "_law_signs", "_law_most"] (defScope s__law_text) := ⟨rfl, rfl, rfl, by decide +kernel, rfl, by decide +kernel, by decide +kernel⟩


local macro_rules | `(tactic| walk_at "W") => `(tactic| first
  | (with_reducible first
    | refine Wp.seq ?_ | refine Wp.asg ?_ | refine Wp.ret ?_ | refine Wp.retN ?_ | refine Wp.drop ?_ | refine Wp.nxt ?_ | refine Wp.ifs ?_ | refine Wp.gname ?_
    | refine Wp.op ?_ | refine Wp.un ?_ | refine Wp.tst ?_ | refine Wp.tb' ?_ | refine Wp.tnot ?_ | refine Wp.tand ?_ | refine Wp.tor ?_ | refine Wp.tandV ?_ | refine Wp.torV ?_ | refine Wp.tnotV ?_ | refine Wp.tif ?_ | refine Wp.tchain ?_
    | refine Wp.cb ?_ | refine Wp.call ?_ | refine Wp.cons ?_ | refine Wp.nil ?_ | refine Wp.gsub ?_ | refine Wp.cst ?_ | refine Wp.i0 ?_ | refine Wp.int1 ?_ | refine Wp.eb ?_ | refine Wp.ei ?_
    | refine Wp.gnil ?_ | refine Wp.gcons ?_ | refine Wp.mko ?_ | refine Wp.bm ?_ | refine Wp.ienum ?_ | refine Wp.tru ?_ | refine Wp.u1 ?_ | refine Wp.for_ ?_ | refine Wp.lc ?_ | refine Wp.istr ?_ | refine Wp.ilist ?_ | refine Wp.itup ?_ | refine Wp.irng1 ?_ | refine Wp.irng2 ?_ | refine Wp.yes ?_ | refine Wp.es ?_ | refine Wp.er ?_ | refine Wp.sl ?_ | refine Wp.nopart ?_ | refine Wp.part ?_ | refine Wp.lst ?_ | refine Wp.tup ?_
    | refine Wp.din ?_ | refine Wp.dnotin ?_ | refine Wp.dget ?_ | refine Wp.dget2 ?_ | refine Wp.dput ?_ | refine Wp.dnewK ?_ | refine Wp.dnewT ?_ | refine Wp.bm0 ?_ | refine Wp.m1 ?_ | refine Wp.exs ?_ | refine Wp.is0 ?_ | refine Wp.isnot0 ?_ | refine Wp.fld ?_ | refine Wp.sfld ?_
    | refine Wp.par ?_ | refine Wp.parV ?_ | refine Wp.brk ?_ | refine Wp.aug ?_ | refine Wp.ipaI ?_ | refine Wp.ipsI ?_ | refine Bk.ienumS ?_ | refine Wp.make_ ?_ | refine Wp.itnn ?_ | refine Wp.ltI ?_ | refine Wp.leI ?_ | refine Wp.leS ?_ | refine Wp.inSg ?_ | refine Wp.gtI ?_ | refine Wp.geI ?_ | refine Wp.eqI ?_ | refine Wp.neI ?_ | refine Wp.addI ?_ | refine Wp.ltS ?_ | refine Wp.eqS ?_ | refine Wp.neS ?_)
  | ((with_reducible refine' Wp.var ?hv ?_); (case hv => exact rfl))
  | ((with_reducible refine' Wp.ixl ?hs ?he ?_); (case hs => first | exact SqL.of upd_same | exact SqL.of (by assumption) | assumption); (case he => exact rfl))
  | ((with_reducible refine' Wp.setl ?hs ?he ?_); (case hs => first | exact upd_same | assumption); (case he => exact rfl))
  | ((with_reducible refine' Wp.modP ?hs ?_); (case hs => first | decide | omega))
  | ((with_reducible refine' Wp.divN ?hs ?ht ?_); (case hs => first | decide | omega); (case ht => first | decide | omega))
  | ((with_reducible refine' Wp.mulM ?hs ?ht ?_); (case hs => decide); (case ht => decide))
  | ((with_reducible refine' Wp.mulL ?hs ?_); (case hs => omega))
  | ((with_reducible refine' Wp.mulR ?hs ?_); (case hs => omega))
  | ((with_reducible refine' Wp.powS ?hs ?_); (case hs => decide))
  | ((with_reducible refine' Wp.shr ?hs ?_); (case hs => decide))
  | ((with_reducible refine' Wp.szl ?hs ?_); (case hs => first | decide | (simp; done)))
  | ((with_reducible refine' Wp.lenL ?hs ?_); (case hs => first | exact SqL.of upd_same | exact SqL.of (by assumption) | assumption))
  | ((with_reducible refine' Wp.lenT ?hs ?_); (case hs => first | exact SqT.of upd_same | exact SqT.of (by assumption) | assumption))
  | ((with_reducible refine' Wp.iteC ?hs ?_); (case hs => exact rfl)) | ((with_reducible refine' Wp.iteD ?hs ?_); (case hs => exact Bool.false_ne_true))
  | ((with_reducible refine' Wp.wp ?hs ?_); (case hs => rfl))
  | (with_reducible first | refine Wp.abs ?_ | refine Wp.max2 ?_ | refine Wp.min2 ?_)
  | ((with_reducible refine' Wp.sll ?hs ?_); (case hs => first | exact SqL.of upd_same | exact SqL.of (by assumption) | assumption)))
local macro_rules | `(tactic| walk_at "KQ") => `(tactic| first
  | exact Wp.kq "int" rfl (by decide +kernel) | exact Wp.kq "bool" rfl (by decide +kernel) | exact Wp.kq "str" rfl (by decide +kernel) | exact Wp.kq "list" rfl (by decide +kernel)
  | exact Wp.kq "tuple" rfl (by decide +kernel) | exact Wp.kq "NoneType" rfl (by decide +kernel) | exact Wp.kq "dict" rfl (by decide +kernel))

section
variable {P : Program} {w : World} {K : PySem.W.Frag} {mg : Str → Option Value} {base : Heap}
def over (sg z : Str) : Prop := ∀ c ∈ cl z, c ∈ cl sg
theorem over_app {sg z : Str} {c : Nat} (h : over sg z) (hc : c ∈ sg.cps.toList) : over sg (z ++ ⟨#[c]⟩) := fun x hx => by
  rw [show cl (z ++ ⟨#[c]⟩) = cl z ++ [c] from TL.tl_append z ⟨#[c]⟩] at hx
  rcases List.mem_append.mp hx with e | e
  · exact h x e
  · rw [List.mem_singleton.mp e]; exact hc
def spDText : Sp := fun vs H Q _ => ∃ a sg m, vs = [.ref a, .str sg, .int m] ∧ Src H a ∧ sg ∈ menu ∧ 0 ≤ m ∧ m ≤ 200 ∧ ∀ H' z, Keep a H H' → Src H' a → (z.length : Int) ≤ m → over sg z → Q (.str z) H'
/-- a rule is drawn; its left side is no longer than is asked -/
def spDRuleN : Sp := fun vs H Q _ => ∃ a sg m, vs = [.ref a, .str sg, .int m] ∧ Src H a ∧ sg ∈ menu ∧ 2 ≤ m ∧ m ≤ 4 ∧ ∀ H' b l r, Keep a H H' → Src H' a → H b = none → b ≠ a → H' b = some (.tup [.str l, .str r]) → RuleOk sg l r → (l.length : Int) ≤ m → Q (.ref b) H'
def spDRule : Sp := fun vs H Q _ => ∃ a sg m, vs = [.ref a, .str sg, .int m] ∧ Src H a ∧ sg ∈ menu ∧ 2 ≤ m ∧ m ≤ 4 ∧ ∀ H' b l r, Keep a H H' → Src H' a → H b = none → b ≠ a → H' b = some (.tup [.str l, .str r]) → RuleOk sg l r → Q (.ref b) H'
/-- a rule as data -/
def ruleD (p : Str × Str) : PyData := .tuple [.str p.1, .str p.2]
theorem rules_dps {K : PySem.W.Frag} {H : Hp} : ∀ {bs : List Addr} {rs : List (Str × Str)}, RulesAt H bs rs → DpAll K H (bs.map V.ref) (rs.map ruleD)
  | [], [], _ => .nil
  | _ :: _, _ :: _, h => .cons (.tup (SqT.of h.1) (.cons (.str _) (.cons (.str _) .nil))) (rules_dps h.2)
  | [], _ :: _, h => h.elim
  | _ :: _, [], h => h.elim
theorem rulesAt_app {H : Hp} {b : Addr} {p : Str × Str} : ∀ {bs : List Addr} {rs : List (Str × Str)}, RulesAt H bs rs → H b = some (.tup [.str p.1, .str p.2]) → RulesAt H (bs ++ [b]) (rs ++ [p])
  | [], [], _, e => ⟨e, trivial⟩
  | _ :: _, _ :: _, h, e => ⟨h.1, rulesAt_app h.2 e⟩
  | [], _ :: _, h, _ => h.elim
  | _ :: _, [], h, _ => h.elim
theorem rulesAt_keep {H H' : Hp} (s : ∀ b xs, H b = some (.tup xs) → H' b = some (.tup xs)) : ∀ {bs : List Addr} {rs : List (Str × Str)}, RulesAt H bs rs → RulesAt H' bs rs
  | [], [], _ => trivial
  | _ :: _, _ :: _, h => ⟨s _ _ h.1, rulesAt_keep s h.2⟩
  | [], _ :: _, h => h.elim
  | _ :: _, [], h => h.elim
theorem shaped_list {ds : List PyData} (h : ∀ d ∈ ds, SeqAt.shaped d = true ∧ d.depth ≤ 60) : SeqAt.shaped (.list ds) = true := by
  have h1 : ∀ {ds : List PyData}, (∀ d ∈ ds, SeqAt.shaped d = true ∧ d.depth ≤ 60) → PyData.canLayAll0 ds = true ∧ PyData.depthAll ds ≤ 60 := by
    intro ds
    induction ds with
    | nil => intro _; exact ⟨rfl, by simp [PyData.depthAll]⟩
    | cons d ds ih =>
      intro h
      obtain ⟨a, b⟩ := ih fun e he => h e (List.mem_cons_of_mem _ he)
      obtain ⟨c1, c2⟩ := h d List.mem_cons_self
      have c3 : d.canLay0 = true := by
        unfold SeqAt.shaped at c1
        rw [Bool.and_eq_true] at c1
        exact c1.1
      refine ⟨by rw [PyData.canLayAll0, c3, a]; rfl, ?_⟩
      rw [PyData.depthAll]
      exact Nat.max_le.mpr ⟨c2, b⟩
  obtain ⟨a, b⟩ := h1 h
  unfold SeqAt.shaped
  rw [Bool.and_eq_true]
  refine ⟨by rw [PyData.canLay0]; exact a, decide_eq_true ?_⟩
  rw [PyData.depth]; omega
/-- rules are drawn, with left sides no longer than ll -/
def spDrawnN (lo hi ll : Nat) : Sp := fun vs H Q _ => ∃ a sg, vs = [.ref a, .str sg] ∧ Src H a ∧ sg ∈ menu ∧ ∀ H' t bs rs, Keep a H H' → Src H' a → H t = none → H' t = some (.tup (bs.map V.ref)) → RulesAt H' bs rs → (∀ p ∈ rs, RuleOk sg p.1 p.2 ∧ p.1.length ≤ ll) → rs.Nodup → lo ≤ rs.length → rs.length ≤ hi → Q (.ref t) H'
def spDrawn (lo hi : Nat) : Sp := fun vs H Q _ => ∃ a sg, vs = [.ref a, .str sg] ∧ Src H a ∧ sg ∈ menu ∧ ∀ H' t bs rs, Keep a H H' → Src H' a → H t = none → H' t = some (.tup (bs.map V.ref)) → RulesAt H' bs rs → (∀ p ∈ rs, RuleOk sg p.1 p.2) → rs.Nodup → lo ≤ rs.length → rs.length ≤ hi → Q (.ref t) H'
end
end K57
set_option Elab.async false
set_option linter.all false
set_option maxRecDepth 100000
set_option maxHeartbeats 8000000
namespace K57
open PySem PySem.Spec PyProof.Rows L2 Bk
open Wp (Keep wo_lt wo_le wo_gt wo_ge wo_eq wo_ne wo_in wo_nin wo_add wo_mul op_shlB ws_any wc_int wc_isi u65)
abbrev s__law_left : Stmt := topS 56
abbrev N__law_left : List Str := ["_law_rules", "_law_text_here", "_law_pile", "_law_sign", "_law_rule", "_law_fitting"]
theorem sc__law_left : FnScope N__law_left ["_law_rules", "_law_text_here"] (defScope s__law_left) := ⟨rfl, rfl, rfl, by decide +kernel, rfl, by decide +kernel, by decide +kernel⟩
local macro_rules | `(tactic| walk_at "W") => `(tactic| first
  | (with_reducible first
    | refine Wp.seq ?_ | refine Wp.asg ?_ | refine Wp.ret ?_ | refine Wp.retN ?_ | refine Wp.drop ?_ | refine Wp.nxt ?_ | refine Wp.ifs ?_ | refine Wp.gname ?_
    | refine Wp.op ?_ | refine Wp.un ?_ | refine Wp.tst ?_ | refine Wp.tb' ?_ | refine Wp.tnot ?_ | refine Wp.tand ?_ | refine Wp.tor ?_ | refine Wp.tandV ?_ | refine Wp.torV ?_ | refine Wp.tnotV ?_ | refine Wp.tif ?_ | refine Wp.tchain ?_
    | refine Wp.cb ?_ | refine Wp.call ?_ | refine Wp.cons ?_ | refine Wp.nil ?_ | refine Wp.gsub ?_ | refine Wp.cst ?_ | refine Wp.i0 ?_ | refine Wp.int1 ?_ | refine Wp.eb ?_ | refine Wp.ei ?_
    | refine Wp.gnil ?_ | refine Wp.gcons ?_ | refine Wp.mko ?_ | refine Wp.bm ?_ | refine Wp.ienum ?_ | refine Wp.tru ?_ | refine Wp.u1 ?_ | refine Wp.for_ ?_ | refine Wp.lc ?_ | refine Wp.istr ?_ | refine Wp.ilist ?_ | refine Wp.itup ?_ | refine Wp.irng1 ?_ | refine Wp.irng2 ?_ | refine Wp.yes ?_ | refine Wp.es ?_ | refine Wp.er ?_ | refine Wp.sl ?_ | refine Wp.nopart ?_ | refine Wp.part ?_ | refine Wp.lst ?_ | refine Wp.tup ?_
    | refine Wp.din ?_ | refine Wp.dnotin ?_ | refine Wp.dget ?_ | refine Wp.dget2 ?_ | refine Wp.dput ?_ | refine Wp.dnewK ?_ | refine Wp.dnewT ?_ | refine Wp.bm0 ?_ | refine Wp.m1 ?_ | refine Wp.exs ?_ | refine Wp.is0 ?_ | refine Wp.isnot0 ?_ | refine Wp.fld ?_ | refine Wp.sfld ?_
    | refine Wp.par ?_ | refine Wp.parV ?_ | refine Wp.brk ?_ | refine Wp.aug ?_ | refine Wp.ipaI ?_ | refine Wp.ipsI ?_ | refine Bk.ienumS ?_ | refine Wp.make_ ?_ | refine Wp.itnn ?_ | refine Wp.ltI ?_ | refine Wp.leI ?_ | refine Wp.leS ?_ | refine Wp.inSg ?_ | refine Wp.gtI ?_ | refine Wp.geI ?_ | refine Wp.eqI ?_ | refine Wp.neI ?_ | refine Wp.addI ?_ | refine Wp.ltS ?_ | refine Wp.eqS ?_ | refine Wp.neS ?_)
  | ((with_reducible refine' Wp.var ?hv ?_); (case hv => exact rfl))
  | ((with_reducible refine' Wp.ixl ?hs ?he ?_); (case hs => first | exact SqL.of upd_same | exact SqL.of (by assumption) | assumption); (case he => exact rfl))
  | ((with_reducible refine' Wp.setl ?hs ?he ?_); (case hs => first | exact upd_same | assumption); (case he => exact rfl))
  | ((with_reducible refine' Wp.modP ?hs ?_); (case hs => first | decide | omega))
  | ((with_reducible refine' Wp.divN ?hs ?ht ?_); (case hs => first | decide | omega); (case ht => first | decide | omega))
  | ((with_reducible refine' Wp.mulM ?hs ?ht ?_); (case hs => decide); (case ht => decide))
  | ((with_reducible refine' Wp.mulL ?hs ?_); (case hs => omega))
  | ((with_reducible refine' Wp.mulR ?hs ?_); (case hs => omega))
  | ((with_reducible refine' Wp.powS ?hs ?_); (case hs => decide))
  | ((with_reducible refine' Wp.shr ?hs ?_); (case hs => decide))
  | ((with_reducible refine' Wp.szl ?hs ?_); (case hs => first | decide | (simp; done)))
  | ((with_reducible refine' Wp.lenL ?hs ?_); (case hs => first | exact SqL.of upd_same | exact SqL.of (by assumption) | assumption))
  | ((with_reducible refine' Wp.lenT ?hs ?_); (case hs => first | exact SqT.of upd_same | exact SqT.of (by assumption) | assumption))
  | ((with_reducible refine' Wp.iteC ?hs ?_); (case hs => exact rfl)) | ((with_reducible refine' Wp.iteD ?hs ?_); (case hs => exact Bool.false_ne_true))
  | ((with_reducible refine' Wp.wp ?hs ?_); (case hs => rfl))
  | (with_reducible first | refine Wp.abs ?_ | refine Wp.max2 ?_ | refine Wp.min2 ?_)
  | ((with_reducible refine' Wp.sll ?hs ?_); (case hs => first | exact SqL.of upd_same | exact SqL.of (by assumption) | assumption)))
local macro_rules | `(tactic| walk_at "KQ") => `(tactic| first
  | exact Wp.kq "int" rfl (by decide +kernel) | exact Wp.kq "bool" rfl (by decide +kernel) | exact Wp.kq "str" rfl (by decide +kernel) | exact Wp.kq "list" rfl (by decide +kernel)
  | exact Wp.kq "tuple" rfl (by decide +kernel) | exact Wp.kq "NoneType" rfl (by decide +kernel) | exact Wp.kq "dict" rfl (by decide +kernel))

def pileN (σ : L2.St) (_ : Hp) : Nat := match (σ[2]? : Option (Option V)) with | some (some (V.str x)) => x.length | _ => 0
section
variable {P : Program} {w : World} {K : PySem.W.Frag} {mg : Str → Option Value} {base : Heap}
def spLLeft : Sp := fun vs H Q _ => ∃ t bs rs z, vs = [.ref t, .str z] ∧ RowAt H t (bs.map V.ref) ∧ RulesAt H bs rs ∧ rs.length ≤ 64 ∧ Good rs ∧ z.length ≤ 900 ∧ ∀ H', Same H H' → Q (.str (mkS (overP rs (cl z)))) H'
theorem ok_lleft (B : Wp.Blt mg) {f : Addr} {fd : FuncData} (F : Fun K "_law_left" "_law_left" s__law_left f fd) : FnOk P w K mg base CX0 1 f fd ["_law_rules", "_law_text_here"] spLLeft := by
  refine F.ok sc__law_left (fun vs H Q E h => ?_) (fun cdv A outer s H vs Q E hr h => ?_)
  · obtain ⟨t, bs, rs, z, rfl, _⟩ := h
    rfl
  · obtain ⟨t, bs, rs, z, rfl, ht, hb, hl, hg, hz, q⟩ := h
    refine ⟨_, (pss_cons (ps_set (i := 2) sc__law_left.nd rfl (by first | exact .inl rfl | exact .inr rfl) pe_str)
  (pss_cons (ps_for PassesOwn.never rfl (pi_str (pv 1)) (pg_name (i := 3) sc__law_left.nd rfl (by first | exact .inl rfl | exact .inr rfl)) (pss_cons (ps_set (i := 2) sc__law_left.nd rfl (by first | exact .inl rfl | exact .inr rfl) (pe_op (wo_add (K := K)) (pv 2) (pv 3)))
  (pss_cons (ps_setLc (i := 5) (own := [("_law_rule", 4)]) (g := gName 4) (by rfl) sc__law_left.nd rfl rfl (sw_true rfl rfl rfl (by decide +kernel)) (wi_u (K := K) (pv 0)) (blkOk_by (own := [("_law_rule", 4)]) (N := N__law_left) (sc := defScope s__law_left) (by decide +kernel)) (fun _ _ _ _ _ => pg_name (i := 4) sc__law_left.nd rfl (Or.inl rfl)) (fun _ _ _ _ _ => pts_one (pt_val (pe_m1 PySem.F.slot_str_endswith PySem.F.type_str_endswith mt_endswith (pv 2) (pe_ix (Wp.wx_seq (K := K)) (pv 4) pe_int (fun _ _ => rfl))))) (fun _ _ _ _ _ => (pv 4)))
  (pss_one (ps_while PassesOwn.never (Wp.wt_truth (K := K) (pv 5) (by intro _; rfl)) (pss_cons (ps_set (i := 2) sc__law_left.nd rfl (by first | exact .inl rfl | exact .inr rfl) (pe_op (wo_add (K := K)) (pe_slice (ws_any (K := K)) (pv 2) po_none (po_some (pe_op op_sub (pe_callB (Wp.wc_len (K := K)) (by rfl) B.len (by decide +kernel) (pa_cons (pv 2) pa_nil)) (pe_callB (Wp.wc_len (K := K)) (by rfl) B.len (by decide +kernel) (pa_cons (pe_ix (Wp.wx_seq (K := K)) (pe_ix (Wp.wx_seq (K := K)) (pv 5) pe_int (fun _ _ => rfl)) pe_int (fun _ _ => rfl)) pa_nil))))) (pe_ix (Wp.wx_seq (K := K)) (pe_ix (Wp.wx_seq (K := K)) (pv 5) pe_int (fun _ _ => rfl)) pe_int (fun _ _ => rfl))))
  (pss_one (ps_setLc (i := 5) (own := [("_law_rule", 4)]) (g := gName 4) (by rfl) sc__law_left.nd rfl rfl (sw_true rfl rfl rfl (by decide +kernel)) (wi_u (K := K) (pv 0)) (blkOk_by (own := [("_law_rule", 4)]) (N := N__law_left) (sc := defScope s__law_left) (by decide +kernel)) (fun _ _ _ _ _ => pg_name (i := 4) sc__law_left.nd rfl (Or.inl rfl)) (fun _ _ _ _ _ => pts_one (pt_val (pe_m1 PySem.F.slot_str_endswith PySem.F.type_str_endswith mt_endswith (pv 2) (pe_ix (Wp.wx_seq (K := K)) (pv 4) pe_int (fun _ _ => rfl))))) (fun _ _ _ _ _ => (pv 4))))))))))
  (pss_one (ps_ret (pv 2))))), ?_⟩
    refine Wp.st (σ' := [some (.ref t), some (.str z), none, none, none, none]) rfl ?_
    have hzl := len_cl z
    have hbl := hb.len
    have fitC : ∀ (cs2 : List Nat) (H2 : Hp) (a3 a4 a5 : Option V) (D : Ends), Same H H2 → (∀ v H3, Same H2 H3 → H3 v = some (.lst ((fitL rs bs cs2).map V.ref)) → D.nx [some (.ref t), some (.str z), some (.str (mkS cs2)), a3, a4, some (.ref v)] H3) →
        tAsg (tLc (iU K (tVar 0)) (gName 4) (tB (tM1 (fun x xs H Q => ∃ a b, x = V.str a ∧ xs = [V.str b] ∧ Q (V.bl (Txt.endswith a b)) H) (tVar 2) (tOp (rIx K) (tVar 4) (tC (V.int 0))))) (tVar 4) (List.map (fun x => x.snd) [(("_law_rule_here" : Str), 4)])) (gName 5) D [some (.ref t), some (.str z), some (.str (mkS cs2)), a3, a4, a5] H2 := by
      intro cs2 H2 a3 a4 a5 D s2 h
      have ht2 := ht.same s2
      repeat walk_at "W"
      have key : ∀ (J : It) (G : Hp → Prop), L2.Walk J (bs.map V.ref).length G (YAt (bs.map V.ref)) → (∀ H3, Same H2 H3 → G H3) → ∀ A, H2 A = none →
          Wp.LCg J (gName 4) (tB (tM1 (fun x xs H Q => ∃ a b, x = V.str a ∧ xs = [V.str b] ∧ Q (V.bl (Txt.endswith a b)) H) (tVar 2) (tOp (rIx K) (tVar 4) (tC (V.int 0))))) (tVar 4) (List.map (fun x => x.snd) [(("_law_rule_here" : Str), 4)])
            [some (.ref t), some (.str z), some (.str (mkS cs2)), a3, a4, a5] (fun x H1 => gName 5 x [some (.ref t), some (.str z), some (.str (mkS cs2)), a3, a4, a5] H1 D.nx) H2 A := by
        intro J G hw hG A hA
        have upA : ∀ {G : Hp} (o : HO), Same H2 G → Same H2 (upd G A o) := fun o s b u e => by rw [upd_ne (ne_of_none e hA)]; exact s _ _ e
        refine Wp.lcIt hw (fun i H3 => Same H2 H3 ∧ H3 A = some (.lst ((fitL (rs.take i) (bs.take i) cs2).map V.ref))) ⟨Wp.same_upd hA, upd_same⟩ (fun i H3 _ h => hG _ h.1) ?_ ?_
        · rintro i x H3 H3' hi ⟨s3, hA3⟩ ⟨rfl, hx⟩
          obtain ⟨b, ⟨l, r⟩, rfl, hlr, hbm⟩ := rulesAt_take hb hx
          replace hbm : H b = some (.tup [.str l, .str r]) := hbm
          have hbi : bs[i]? = some b := by
            rw [List.getElem?_map] at hx
            obtain ⟨b', e, e2⟩ := Option.map_eq_some_iff.mp hx
            cases e2; exact e
          have hfs := fitL_succ (p := cs2) hlr hbi
          have hfl := fitL_le (rs := rs) (bs := bs) (p := cs2) i
          have hil := (List.getElem?_eq_some_iff.mp hlr).1
          repeat walk_at "W"
          refine Wp.ixt (SqT.of (s3 _ _ (s2 _ _ hbm))) rfl ?_
          refine ⟨_, _, rfl, rfl, ?_⟩
          rw [ends_eq, cl_mk]
          repeat walk_at "W"
          refine Wp.itb (fun e1 => ?_) (fun e1 => ?_)
          · repeat walk_at "W"
            refine ⟨_, hA3, by rw [List.length_map]; exact small1000 (by omega), upA _ s3, ?_⟩
            rw [upd_same, hfs, if_pos e1, List.map_append]; rfl
          · refine ⟨s3, ?_⟩
            rw [hfs, if_neg (by rw [e1]; simp), List.append_nil]; exact hA3
        · rintro H3 ⟨s3, hA3⟩
          rw [List.length_map, List.take_of_length_le (Nat.le_refl _), List.take_of_length_le (by omega)] at hA3
          repeat walk_at "W"
          exact h A H3 s3 hA3

      rcases ht2 with ht2 | ht2
      · refine .inl ?_
        repeat walk_at "W"
        exact ⟨⟨_, SqL.of ht2⟩, key _ _ walk_list fun H3 s3 => SqL.of (s3 _ _ ht2)⟩
      · refine .inr ?_
        repeat walk_at "W"
        exact ⟨⟨_, SqT.of ht2⟩, key _ _ walk_tup fun H3 s3 => SqT.of (s3 _ _ ht2)⟩
    have addC : ∀ (a : List Nat) (b : Str), mkS a ++ b = mkS (a ++ cl b) := fun a b => ext (by rw [cl_mk, show cl (mkS a ++ b) = cl (mkS a) ++ cl b from TL.tl_append _ _, cl_mk])
    repeat walk_at "W"
    refine Wp.forIt walk_str (fun i σ1 H1 => ∃ cs x3 x4 x5, σ1 = [some (.ref t), some (.str z), some (.str (mkS cs)), x3, x4, x5] ∧ Same H H1 ∧ cs.length ≤ i ∧ overP rs ((cl z).take i) = cs) ⟨[], _, _, _, rfl, Same.refl _, Nat.le_refl _, rfl⟩ (fun _ _ _ _ _ => trivial) ?_ ?_
    · rintro i x σ1 H1 H1' hi ⟨cs, x3, x4, x5, rfl, s1, hlen, hov⟩ ⟨rfl, c, hc, rfl⟩
      have hi2 : i < z.length := hi
      have hcl : (cl z)[i]? = some c := by show z.cps.toList[i]? = _; rw [Array.getElem?_toList]; exact hc
      have hov1 : overP rs ((cl z).take (i + 1)) = shrinkP rs (cs ++ [c]).length (cs ++ [c]) := by
        rw [List.take_add_one, hcl]
        unfold overP
        rw [List.foldl_append]
        unfold overP at hov
        rw [hov]; rfl
      have hlen2 : (cs ++ [c]).length ≤ i + 1 := by rw [List.length_append]; simp; omega
      refine Wp.cutQ (fun σ' H' => ∃ x3, σ' = [some (.ref t), some (.str z), some (.str (mkS (cs ++ [c]))), x3, x4, x5] ∧ H' = H1') (fun nx hn => ?_) ?_
      · repeat walk_at "W"
        refine Wp.addS (Nat.le_of_lt (small1000 (by rw [len_mk]; show cs.length + 1 ≤ 1000; omega))) ?_
        rw [addC]
        repeat walk_at "W"
        exact hn _ _ ⟨_, rfl, rfl⟩
      rintro σ' H2 ⟨y3, rfl, rfl⟩
      generalize cs ++ [c] = cs2 at hov1 hlen2
      refine Wp.seq ?_
      refine fitC cs2 _ y3 x4 x5 _ s1 fun v H3 s3 hv => ?_
      refine whileL (fun σ' H' => ∃ cs3 v x3 x4, σ' = [some (.ref t), some (.str z), some (.str (mkS cs3)), x3, x4, some (.ref v)] ∧ Same H H' ∧ H' v = some (.lst ((fitL rs bs cs3).map V.ref)) ∧ cs3.length ≤ i + 1 ∧ shrinkP rs cs3.length cs3 = shrinkP rs cs2.length cs2)
        pileN ⟨cs2, v, _, _, rfl, s1.trans s3, hv, hlen2, rfl⟩ ?_
      rintro σ' H4 ⟨cs3, v3, z3, z4, rfl, s4, hv4, hl4, hsh⟩
      refine ⟨v3, _, rfl, SqL.of hv4, ?_⟩
      cases hf : fit rs (last4 cs3) with
      | none =>
        rw [fitL_none hg hf]
        refine Wp.iteD (by simp) ?_
        refine ⟨cs3, _, _, _, rfl, s4, hl4, ?_⟩
        rw [hov1, ← hsh, shrinkP_none hf]
      | some p =>
        obtain ⟨n, l, r⟩ := p
        obtain ⟨g1, g2, g3, g4, g5⟩ := fit_len hg hf
        obtain ⟨b, tl, hfl, hbn, hrn⟩ := fitL_some hg hbl hf
        rw [hfl] at hv4 ⊢
        refine Wp.iteC rfl ?_
        obtain ⟨b', hb1, hb2⟩ := hb.get hrn
        rw [hbn] at hb1; cases hb1
        replace hb2 : H b = some (.tup [.str l, .str r]) := hb2
        have hb4 := s4 _ _ hb2
        have hml := len_mk cs3
        have e0 : atI ((b :: tl).map V.ref) 0 = some (.ref b) := atI_nat (j := 0) (by rfl)
        have hln : (cs3.take (cs3.length - l.length) ++ cl r).length < cs3.length := by rw [List.length_append, List.length_take, len_cl]; omega
        refine Wp.cutQ (fun σ' H' => σ' = [some (.ref t), some (.str z), some (.str (mkS (cs3.take (cs3.length - l.length) ++ cl r))), z3, z4, some (.ref v3)] ∧ H' = H4) (fun nx hn => ?_) ?_
        · repeat walk_at "W"
          refine Wp.lenS (Nat.le_of_lt (small1000 (by omega))) ?_
          repeat walk_at "W"
          refine Wp.ixl (SqL.of hv4) e0 ?_
          repeat walk_at "W"
          refine Wp.ixt (SqT.of hb4) rfl ?_
          repeat walk_at "W"
          refine Wp.lenS (Nat.le_of_lt (small1000 (by omega))) ?_
          repeat walk_at "W"
          refine sls (by omega) ?_
          rw [cutS_hi (z := mkS cs3) (cs3.length - l.length) (by omega), cl_mk]
          repeat walk_at "W"
          refine Wp.ixl (SqL.of hv4) e0 ?_
          repeat walk_at "W"
          refine Wp.ixt (SqT.of hb4) rfl ?_
          refine Wp.addS (Nat.le_of_lt (small1000 (by rw [len_mk, List.length_take]; omega))) ?_
          rw [addC]
          repeat walk_at "W"
          exact hn _ _ ⟨rfl, rfl⟩
        rintro σ' H5 ⟨rfl, rfl⟩
        refine fitC _ _ _ _ _ _ s4 fun v8 H8 s8 hv8 => ?_
        refine ⟨⟨_, v8, _, _, rfl, s4.trans s8, hv8, by omega, ?_⟩, ?_⟩
        · rw [← hsh, shrinkP_some hg hf]
        · show (mkS (cs3.take (cs3.length - l.length) ++ cl r)).length < (mkS cs3).length
          rw [len_mk, len_mk]; exact hln
    · rintro σ1 H1 ⟨cs, x3, x4, x5, rfl, s1, hlen, hov⟩
      have e : (cl z).take z.cps.size = cl z := List.take_of_length_le (by rw [hzl]; exact Nat.le_refl _)
      rw [e] at hov
      repeat walk_at "W"
      rw [← hov]
      exact q _ s1
end
end K57
set_option Elab.async false
set_option linter.all false
set_option maxRecDepth 100000
set_option maxHeartbeats 8000000
namespace K57
open PySem PySem.Spec PyProof.Rows L2 Bk
open Wp (Keep)
theorem rulesGo_ok {sg : Str} : ∀ {rs ps : List (Str × Str)} {i : Nat}, (∀ p ∈ rs, RuleOk sg p.1 p.2) → (ps ++ rs).Nodup → rulesGo sg ps (rs.map ruleD) i = .ok (ps ++ rs)
  | [], ps, i, _, _ => by rw [List.append_nil]; rfl
  | (l, r) :: rs, ps, i, h, hn => by
    have h1 : isRule sg (ruleD (l, r)) = true := isRule_ok (l := l) (r := r) rfl (h _ List.mem_cons_self)
    have h2 : (l, r) ∉ ps := fun z => by
      have := List.nodup_append.mp hn
      exact this.2.2 _ z _ List.mem_cons_self rfl
    rw [List.map_cons, rulesGo, if_neg (by rw [h1]; simp)]
    show (if (l, r) ∈ ps then _ else rulesGo sg (ps ++ [(l, r)]) (rs.map ruleD) (i + 1)) = _
    rw [if_neg h2, rulesGo_ok (fun p hp => h p (List.mem_cons_of_mem _ hp)) (by simpa using hn)]
    simp
theorem rulesOf_ok {sg : Str} {rs : List (Str × Str)} (h : ∀ p ∈ rs, RuleOk sg p.1 p.2) (hn : rs.Nodup) (hl : rs.length ≤ 64) : rulesOf sg (.tuple (rs.map ruleD)) = .ok rs := by
  unfold rulesOf
  show (if 64 < (rs.map ruleD).length then _ else _) = _
  rw [if_neg (by rw [List.length_map]; omega), rulesGo_ok h (by simpa using hn)]
  rfl
theorem sm_rules {sg : Str} {rs : List (Str × Str)} (h : ∀ p ∈ rs, RuleOk sg p.1 p.2) : Wp.sm (.tuple (rs.map ruleD)) = true := by
  have : ∀ {rs : List (Str × Str)}, (∀ p ∈ rs, RuleOk sg p.1 p.2) → Wp.smA (rs.map ruleD) = true := by
    intro rs
    induction rs with
    | nil => intro _; rfl
    | cons p rs ih =>
      intro h
      have hp := h p List.mem_cons_self
      show (Wp.sm (ruleD p) && Wp.smA (rs.map ruleD)) = true
      rw [ih fun q hq => h q (List.mem_cons_of_mem _ hq)]
      have h1 := hp.l4
      have h2 := hp.r1
      simp [ruleD, Wp.sm, Wp.smA]; omega
  simpa [Wp.sm] using this h
theorem trk_rules {K : PySem.W.Frag} {H : Hp} {t : Addr} {bs : List Addr} {rs : List (Str × Str)} (ht : H t = some (.tup (bs.map V.ref))) (hR : RulesAt H bs rs) : Trk K H (.ref t) (.tuple (rs.map ruleD)) := fun ds e => by
  cases e
  refine ⟨t, _, rfl, .inr (SqT.of ht), rules_dps hR, fun i l r e => ?_⟩
  rw [List.getElem?_map] at e
  obtain ⟨q, hq, hq2⟩ := Option.map_eq_some_iff.mp e
  obtain ⟨b, h1, h2⟩ := hR.get hq
  obtain ⟨l', r'⟩ := q
  cases hq2
  exact ⟨b, by rw [List.getElem?_map, h1]; rfl, h2⟩
end K57
set_option Elab.async false
set_option linter.all false
set_option maxRecDepth 100000
set_option maxHeartbeats 8000000
namespace K57
open PySem PySem.Spec PyProof.Rows L2 Bk
open Wp (Keep wo_lt wo_le wo_gt wo_ge wo_eq wo_ne wo_in wo_nin wo_add wo_mul op_shlB ws_any wc_int wc_isi u65)
abbrev s_Book_quarrel : Stmt := inClass (topS 35) 1
abbrev N_Book_quarrel : List Str := ["self"]
theorem sc_Book_quarrel : FnScope N_Book_quarrel ["self"] (defScope s_Book_quarrel) := ⟨rfl, rfl, rfl, by decide +kernel, rfl, by decide +kernel, by decide +kernel⟩
abbrev s_Book___call__ : Stmt := inClass (topS 35) 6
abbrev N_Book___call__ : List Str := ["self", "text"]
abbrev s_checked_book : Stmt := topS 36
abbrev N_checked_book : List Str := ["book"]
theorem sc_checked_book : FnScope N_checked_book ["book"] (defScope s_checked_book) := ⟨rfl, rfl, rfl, by decide +kernel, rfl, by decide +kernel, by decide +kernel⟩
abbrev s_over : Stmt := topS 37
abbrev N_over : List Str := ["book", "text"]
theorem sc_over : FnScope N_over ["book", "text"] (defScope s_over) := ⟨rfl, rfl, rfl, by decide +kernel, rfl, by decide +kernel, by decide +kernel⟩
local macro_rules | `(tactic| walk_at "W") => `(tactic| first
  | (with_reducible first
    | refine Wp.seq ?_ | refine Wp.asg ?_ | refine Wp.ret ?_ | refine Wp.retN ?_ | refine Wp.drop ?_ | refine Wp.nxt ?_ | refine Wp.ifs ?_ | refine Wp.gname ?_
    | refine Wp.op ?_ | refine Wp.un ?_ | refine Wp.tst ?_ | refine Wp.tb' ?_ | refine Wp.tnot ?_ | refine Wp.tand ?_ | refine Wp.tor ?_ | refine Wp.tandV ?_ | refine Wp.torV ?_ | refine Wp.tnotV ?_ | refine Wp.tif ?_ | refine Wp.tchain ?_
    | refine Wp.cb ?_ | refine Wp.call ?_ | refine Wp.cons ?_ | refine Wp.nil ?_ | refine Wp.gsub ?_ | refine Wp.cst ?_ | refine Wp.i0 ?_ | refine Wp.int1 ?_ | refine Wp.eb ?_ | refine Wp.ei ?_
    | refine Wp.gnil ?_ | refine Wp.gcons ?_ | refine Wp.mko ?_ | refine Wp.bm ?_ | refine Wp.ienum ?_ | refine Wp.tru ?_ | refine Wp.u1 ?_ | refine Wp.for_ ?_ | refine Wp.lc ?_ | refine Wp.istr ?_ | refine Wp.ilist ?_ | refine Wp.itup ?_ | refine Wp.irng1 ?_ | refine Wp.irng2 ?_ | refine Wp.yes ?_ | refine Wp.es ?_ | refine Wp.er ?_ | refine Wp.sl ?_ | refine Wp.nopart ?_ | refine Wp.part ?_ | refine Wp.lst ?_ | refine Wp.tup ?_
    | refine Wp.din ?_ | refine Wp.dnotin ?_ | refine Wp.dget ?_ | refine Wp.dget2 ?_ | refine Wp.dput ?_ | refine Wp.dnewK ?_ | refine Wp.dnewT ?_ | refine Wp.bm0 ?_ | refine Wp.m1 ?_ | refine Wp.exs ?_ | refine Wp.is0 ?_ | refine Wp.isnot0 ?_ | refine Wp.fld ?_ | refine Wp.sfld ?_
    | refine Wp.par ?_ | refine Wp.parV ?_ | refine Wp.brk ?_ | refine Wp.aug ?_ | refine Wp.ipaI ?_ | refine Wp.ipsI ?_ | refine Bk.ienumS ?_ | refine Wp.make_ ?_ | refine Wp.itnn ?_ | refine Wp.ltI ?_ | refine Wp.leI ?_ | refine Wp.leS ?_ | refine Wp.inSg ?_ | refine Wp.gtI ?_ | refine Wp.geI ?_ | refine Wp.eqI ?_ | refine Wp.neI ?_ | refine Wp.addI ?_ | refine Wp.ltS ?_ | refine Wp.eqS ?_ | refine Wp.neS ?_)
  | ((with_reducible refine' Wp.var ?hv ?_); (case hv => exact rfl))
  | ((with_reducible refine' Wp.ixl ?hs ?he ?_); (case hs => first | exact SqL.of upd_same | exact SqL.of (by assumption) | assumption); (case he => exact rfl))
  | ((with_reducible refine' Wp.setl ?hs ?he ?_); (case hs => first | exact upd_same | assumption); (case he => exact rfl))
  | ((with_reducible refine' Wp.modP ?hs ?_); (case hs => first | decide | omega))
  | ((with_reducible refine' Wp.divN ?hs ?ht ?_); (case hs => first | decide | omega); (case ht => first | decide | omega))
  | ((with_reducible refine' Wp.mulM ?hs ?ht ?_); (case hs => decide); (case ht => decide))
  | ((with_reducible refine' Wp.mulL ?hs ?_); (case hs => omega))
  | ((with_reducible refine' Wp.mulR ?hs ?_); (case hs => omega))
  | ((with_reducible refine' Wp.powS ?hs ?_); (case hs => decide))
  | ((with_reducible refine' Wp.shr ?hs ?_); (case hs => decide))
  | ((with_reducible refine' Wp.szl ?hs ?_); (case hs => first | decide | (simp; done)))
  | ((with_reducible refine' Wp.lenL ?hs ?_); (case hs => first | exact SqL.of upd_same | exact SqL.of (by assumption) | assumption))
  | ((with_reducible refine' Wp.lenT ?hs ?_); (case hs => first | exact SqT.of upd_same | exact SqT.of (by assumption) | assumption))
  | ((with_reducible refine' Wp.iteC ?hs ?_); (case hs => exact rfl)) | ((with_reducible refine' Wp.iteD ?hs ?_); (case hs => exact Bool.false_ne_true))
  | ((with_reducible refine' Wp.wp ?hs ?_); (case hs => rfl))
  | (with_reducible first | refine Wp.abs ?_ | refine Wp.max2 ?_ | refine Wp.min2 ?_)
  | ((with_reducible refine' Wp.sll ?hs ?_); (case hs => first | exact SqL.of upd_same | exact SqL.of (by assumption) | assumption)))
local macro_rules | `(tactic| walk_at "KQ") => `(tactic| first
  | exact Wp.kq "int" rfl (by decide +kernel) | exact Wp.kq "bool" rfl (by decide +kernel) | exact Wp.kq "str" rfl (by decide +kernel) | exact Wp.kq "list" rfl (by decide +kernel)
  | exact Wp.kq "tuple" rfl (by decide +kernel) | exact Wp.kq "NoneType" rfl (by decide +kernel) | exact Wp.kq "dict" rfl (by decide +kernel))

section
variable {P : Program} {w : World} {K : PySem.W.Frag} {mg : Str → Option Value} {base : Heap}
/-- a field of a book is read -/
theorem bk_rules {C : Addr} {H : Hp} {p : Addr} {sg : Str} {rs : List (Str × Str)} {R : V → Prop} (T : BkC K C) (h : BookAt C H p sg rs) (q : ∀ t bs, H t = some (.tup (bs.map V.ref)) → RulesAt H bs rs → R (.ref t)) :
    ∃ a C' dx fs v, V.ref p = .ref a ∧ H a = some (.ins C' dx fs) ∧ Cls K C' ∧ NoAttr K C' "rules" ∧ fs.lookup ("rules" : Str) = some v ∧ R v := by
  obtain ⟨dx, t, bs, d, qv, h1, h2, h3, _⟩ := h.ex
  exact ⟨p, C, dx, _, _, rfl, h1, T.cl, T.nR, bkF_rules _ _ _ _, q t bs h2 h3⟩
theorem bk_signs {C : Addr} {H : Hp} {p : Addr} {sg : Str} {rs : List (Str × Str)} {R : V → Prop} (T : BkC K C) (h : BookAt C H p sg rs) (q : R (.str sg)) :
    ∃ a C' dx fs v, V.ref p = .ref a ∧ H a = some (.ins C' dx fs) ∧ Cls K C' ∧ NoAttr K C' "signs" ∧ fs.lookup ("signs" : Str) = some v ∧ R v := by
  obtain ⟨dx, t, bs, d, qv, h1, h2, h3, _⟩ := h.ex
  exact ⟨p, C, dx, _, _, rfl, h1, T.cl, T.nS, bkF_signs _ _ _ _, q⟩
theorem ok_getq (B : Wp.Blt mg) {f C : Addr} {fd : FuncData} (F : Fun K "quarrel" "Book.quarrel" s_Book_quarrel f fd) (T : BkC K C) : FnOk P w K mg base CX0 1 f fd ["self"] (getSp C "_quarrel") := by
  refine F.ok sc_Book_quarrel (fun vs H Q E h => ?_) (fun cdv A outer s H vs Q E hr h => ?_)
  · obtain ⟨a, dx, fs, v, rfl, _⟩ := h
    rfl
  · obtain ⟨a, dx, fs, v, rfl, ha, hl, q⟩ := h
    refine ⟨_, (pss_one (ps_ret (Wp.wfld (K := K) (pe_fld (pv 0) rfl)))), ?_⟩
    refine Wp.st (σ' := [some (.ref a)]) rfl ?_
    repeat walk_at "W"
    exact ⟨a, C, dx, fs, v, rfl, ha, T.cl, T.nQ, hl, q⟩
/-- book(text): what is left over of it -/
def spCallB (K : PySem.W.Frag) (C CT : Addr) : Sp := fun vs H Q E => ∃ p sg rs v d, vs = [.ref p, v] ∧ BookAt C H p sg rs ∧ Dp K H v d ∧ (∀ z, d = .str z → z.length ≤ 16777216) ∧
  (∀ z, d = .str z → Wp.isText sg 200 d = true → ∀ H', Same H H' → Q (.str (mkS (overP rs (cl z)))) H') ∧
  (Wp.isText sg 200 d = false → ∀ dd H', H dd = none → Same H H' → H' dd = some (.xd [("thing", v)]) → E (.ref CT) (some dd) H')
def spCheckedB (C : Addr) : Sp := fun vs H Q _ => ∃ p sg rs, vs = [.ref p] ∧ BookAt C H p sg rs ∧ Settled rs ∧ ∀ H', Same H H' → Q (.ref p) H'
theorem ok_checkedB (B : Wp.Blt mg) {f fq pq C : Addr} {fd fdq : FuncData} (F : Fun K "checked_book" "checked_book" s_checked_book f fd) (T : BkC K C) (Pq : PropOf K C "quarrel" pq fq)
    (Gq : FnOk P w K mg base CX0 1 fq fdq ["self"] (getSp C "_quarrel")) (bq : Binds K fdq ["self"] []) : FnOk P w K mg base CX0 3 f fd ["book"] (spCheckedB C) := by
  refine F.ok sc_checked_book (fun vs H Q E h => ?_) (fun cdv A outer s H vs Q E hr h => ?_)
  · obtain ⟨p, sg, rs, rfl, _⟩ := h
    rfl
  · obtain ⟨p, sg, rs, rfl, hB, hset, q⟩ := h
    refine ⟨_, (pss_cons (ps_if (pt_cmpR Wp.wo_isnot (pe_prop (pv 0) T.cl Pq Gq (hr.mono (by decide)) bq .nil pass0 rfl) pe_non (nomark _)) (pss_one ps_never) pss_nil)
  (pss_one (ps_ret (pv 0)))), ?_⟩
    refine Wp.st (σ' := [some (.ref p)]) rfl ?_
    obtain ⟨dx, t, bs, d, qv, h1, h2, h3, h4, os, h5, h6⟩ := hB.ex
    have hq := quar_none hB.g hset h5 h6
    subst hq
    repeat walk_at "W"
    refine ⟨.ref p, rfl, p, dx, _, rfl, h1, p, dx, _, .non, rfl, h1, bkF_quarrel _ _ _ _, ?_⟩
    repeat walk_at "W"
    exact q H (Same.refl _)
def spOver (C : Addr) : Sp := fun vs H Q _ => ∃ p sg rs z, vs = [.ref p, .str z] ∧ BookAt C H p sg rs ∧ z.length ≤ 1000 ∧ ∀ H', Same H H' → Q (.str (mkS (overP rs (cl z)))) H'
theorem ok_over (B : Wp.Blt mg) {f fL fR C : Addr} {fd fdL fdR : FuncData} (F : Fun K "over" "over" s_over f fd) (TB : BkC K C)
    (D_first_rights : Wp.Dh K mg "first_rights" fR fdR ["rules"]) (G_first_rights : FnOk P w K mg base CX0 1 fR fdR ["rules"] spRights)
    (D_left_over : Wp.Dh K mg "left_over" fL fdL ["rights", "text"]) (G_left_over : FnOk P w K mg base CX0 3 fL fdL ["rights", "text"] spLeft) : FnOk P w K mg base CX0 4 f fd ["book", "text"] (spOver C) := by
  refine F.ok sc_over (fun vs H Q E h => ?_) (fun cdv A outer s H vs Q E hr h => ?_)
  · obtain ⟨p, sg, rs, z, rfl, _⟩ := h
    rfl
  · obtain ⟨p, sg, rs, z, rfl, hB, hz, q⟩ := h
    refine ⟨_, (pss_one (ps_ret (pe_call G_left_over (hr.mono (by decide)) (by rfl) D_left_over.g D_left_over.k D_left_over.b .nil pass0 (pa_cons (pe_call G_first_rights (hr.mono (by decide)) (by rfl) D_first_rights.g D_first_rights.k D_first_rights.b .nil pass0 (pa_cons (Wp.wfld (K := K) (pe_fld (pv 0) rfl)) pa_nil)) (pa_cons (pv 1) pa_nil))))), ?_⟩
    refine Wp.st (σ' := [some (.ref p), some (.str z)]) rfl ?_
    repeat walk_at "W"
    refine bk_rules TB hB fun t bs ht hb => ?_
    repeat walk_at "W"
    refine ⟨t, bs, rs, rfl, ht, hb, hB.l, fun H1 d s1 hR => ?_⟩
    repeat walk_at "W"
    exact ⟨d, rs, z, rfl, hR, hB.g, hz, fun H' s2 => q H' (s1.trans s2)⟩
end
end K57
set_option Elab.async false
set_option linter.all false
set_option maxRecDepth 100000
set_option maxHeartbeats 8000000
namespace K57
open PySem PySem.Spec PyProof.Rows L2 Bk
open Wp (Keep wo_lt wo_le wo_gt wo_ge wo_eq wo_ne wo_in wo_nin wo_add wo_mul op_shlB ws_any wc_int wc_isi u65)
abbrev s_Book___eq__ : Stmt := inClass (topS 35) 5
abbrev N_Book___eq__ : List Str := ["self", "other"]
local macro_rules | `(tactic| walk_at "W") => `(tactic| first
  | (with_reducible first
    | refine Wp.seq ?_ | refine Wp.asg ?_ | refine Wp.ret ?_ | refine Wp.retN ?_ | refine Wp.drop ?_ | refine Wp.nxt ?_ | refine Wp.ifs ?_ | refine Wp.gname ?_
    | refine Wp.op ?_ | refine Wp.un ?_ | refine Wp.tst ?_ | refine Wp.tb' ?_ | refine Wp.tnot ?_ | refine Wp.tand ?_ | refine Wp.tor ?_ | refine Wp.tandV ?_ | refine Wp.torV ?_ | refine Wp.tnotV ?_ | refine Wp.tif ?_ | refine Wp.tchain ?_
    | refine Wp.cb ?_ | refine Wp.call ?_ | refine Wp.cons ?_ | refine Wp.nil ?_ | refine Wp.gsub ?_ | refine Wp.cst ?_ | refine Wp.i0 ?_ | refine Wp.int1 ?_ | refine Wp.eb ?_ | refine Wp.ei ?_
    | refine Wp.gnil ?_ | refine Wp.gcons ?_ | refine Wp.mko ?_ | refine Wp.bm ?_ | refine Wp.ienum ?_ | refine Wp.tru ?_ | refine Wp.u1 ?_ | refine Wp.for_ ?_ | refine Wp.lc ?_ | refine Wp.istr ?_ | refine Wp.ilist ?_ | refine Wp.itup ?_ | refine Wp.irng1 ?_ | refine Wp.irng2 ?_ | refine Wp.yes ?_ | refine Wp.es ?_ | refine Wp.er ?_ | refine Wp.sl ?_ | refine Wp.nopart ?_ | refine Wp.part ?_ | refine Wp.lst ?_ | refine Wp.tup ?_
    | refine Wp.din ?_ | refine Wp.dnotin ?_ | refine Wp.dget ?_ | refine Wp.dget2 ?_ | refine Wp.dput ?_ | refine Wp.dnewK ?_ | refine Wp.dnewT ?_ | refine Wp.bm0 ?_ | refine Wp.m1 ?_ | refine Wp.exs ?_ | refine Wp.is0 ?_ | refine Wp.isnot0 ?_ | refine Wp.fld ?_ | refine Wp.sfld ?_
    | refine Wp.par ?_ | refine Wp.parV ?_ | refine Wp.brk ?_ | refine Wp.aug ?_ | refine Wp.ipaI ?_ | refine Wp.ipsI ?_ | refine Bk.ienumS ?_ | refine Wp.make_ ?_ | refine Wp.itnn ?_ | refine Wp.ltI ?_ | refine Wp.leI ?_ | refine Wp.leS ?_ | refine Wp.inSg ?_ | refine Wp.gtI ?_ | refine Wp.geI ?_ | refine Wp.eqI ?_ | refine Wp.neI ?_ | refine Wp.addI ?_ | refine Wp.ltS ?_ | refine Wp.eqS ?_ | refine Wp.neS ?_)
  | ((with_reducible refine' Wp.var ?hv ?_); (case hv => exact rfl))
  | ((with_reducible refine' Wp.ixl ?hs ?he ?_); (case hs => first | exact SqL.of upd_same | exact SqL.of (by assumption) | assumption); (case he => exact rfl))
  | ((with_reducible refine' Wp.setl ?hs ?he ?_); (case hs => first | exact upd_same | assumption); (case he => exact rfl))
  | ((with_reducible refine' Wp.modP ?hs ?_); (case hs => first | decide | omega))
  | ((with_reducible refine' Wp.divN ?hs ?ht ?_); (case hs => first | decide | omega); (case ht => first | decide | omega))
  | ((with_reducible refine' Wp.mulM ?hs ?ht ?_); (case hs => decide); (case ht => decide))
  | ((with_reducible refine' Wp.mulL ?hs ?_); (case hs => omega))
  | ((with_reducible refine' Wp.mulR ?hs ?_); (case hs => omega))
  | ((with_reducible refine' Wp.powS ?hs ?_); (case hs => decide))
  | ((with_reducible refine' Wp.shr ?hs ?_); (case hs => decide))
  | ((with_reducible refine' Wp.szl ?hs ?_); (case hs => first | decide | (simp; done)))
  | ((with_reducible refine' Wp.lenL ?hs ?_); (case hs => first | exact SqL.of upd_same | exact SqL.of (by assumption) | assumption))
  | ((with_reducible refine' Wp.lenT ?hs ?_); (case hs => first | exact SqT.of upd_same | exact SqT.of (by assumption) | assumption))
  | ((with_reducible refine' Wp.iteC ?hs ?_); (case hs => exact rfl)) | ((with_reducible refine' Wp.iteD ?hs ?_); (case hs => exact Bool.false_ne_true))
  | ((with_reducible refine' Wp.wp ?hs ?_); (case hs => rfl))
  | (with_reducible first | refine Wp.abs ?_ | refine Wp.max2 ?_ | refine Wp.min2 ?_)
  | ((with_reducible refine' Wp.sll ?hs ?_); (case hs => first | exact SqL.of upd_same | exact SqL.of (by assumption) | assumption)))
local macro_rules | `(tactic| walk_at "KQ") => `(tactic| first
  | exact Wp.kq "int" rfl (by decide +kernel) | exact Wp.kq "bool" rfl (by decide +kernel) | exact Wp.kq "str" rfl (by decide +kernel) | exact Wp.kq "list" rfl (by decide +kernel)
  | exact Wp.kq "tuple" rfl (by decide +kernel) | exact Wp.kq "NoneType" rfl (by decide +kernel) | exact Wp.kq "dict" rfl (by decide +kernel))

theorem shaped_tup {ds : List PyData} (h : ∀ d ∈ ds, SeqAt.shaped d = true ∧ d.depth ≤ 60) : SeqAt.shaped (.tuple ds) = true := by
  have e : SeqAt.shaped (.tuple ds) = SeqAt.shaped (.list ds) := by
    unfold SeqAt.shaped
    simp [PyData.canLay0, PyData.depth]
  rw [e]; exact shaped_list h
/-- a book is made of the rules of a settled book, over any signs -/
theorem book_make0 {K : PySem.W.Frag} {C CS CB t : Addr} {bs : List Addr} {sg : Str} {rs : List (Str × Str)} {G : Hp} {R : Addr → Hp → Prop} {E : XK} (hsl : sg.length ≤ 8) (hgood : goodSigns (.str sg) = true) (ht : G t = some (.tup (bs.map V.ref))) (hR : RulesAt G bs rs) (ok : ∀ p ∈ rs, RuleOk sg p.1 p.2) (nd : rs.Nodup) (hl : rs.length ≤ 64)
    (q : ∀ x H', Same G H' → BookAt C H' x sg rs → R x H') : ∀ x dx, G x = none → G dx = none → dx ≠ x → spBook K C CS CB (.ref x :: ([.str sg, .ref t] ++ [])) (upd (upd G dx (.own x)) x (.ins C dx [])) (fun v H2 => v = .non ∧ R x H2) E := by
  intro p dx hp hdx hne
  have sp : Same G (upd (upd G dx (.own p)) p (.ins C dx [])) := fun b o e => by rw [upd_ne (ne_of_none e hp), upd_ne (ne_of_none e hdx)]; exact e
  have hdR : Dp K (upd (upd G dx (.own p)) p (.ins C dx [])) (.ref t) (.tuple (rs.map ruleD)) := .tup (SqT.of (sp _ _ ht)) (rules_dps (hR.same sp))
  refine ⟨p, dx, .str sg, .str sg, .ref t, .tuple (rs.map ruleD), rfl, upd_same, .str sg, (fun z e => by cases e; omega), hdR, sm_rules ok, trk_rules (sp _ _ ht) (hR.same sp), (fun hb => by rw [hgood] at hb; cases hb), fun sg' e _ => ?_⟩
  cases e
  refine ⟨fun ps hps H5 k5 hB => ⟨rfl, ?_⟩, fun i hi => by rw [rulesOf_ok ok nd hl] at hi; cases hi⟩
  rw [rulesOf_ok ok nd hl] at hps; cases hps
  exact q p H5 (fun b o e => k5 b o (ne_of_none e hp) (sp b o e)) hB
section
variable {P : Program} {w : World} {K : PySem.W.Frag} {mg : Str → Option Value} {base : Heap}
/-- == of two books -/
def spBEq (C : Addr) : Sp := fun vs H Q _ => ∃ p p2 sg sg2 rs rs2, vs = [.ref p, .ref p2] ∧ BookAt C H p sg rs ∧ BookAt C H p2 sg2 rs2 ∧ sg ∈ menu ∧ sg2 ∈ menu ∧ (∀ q ∈ rs, RuleOk sg q.1 q.2) ∧ (∀ q ∈ rs2, RuleOk sg2 q.1 q.2) ∧ Q (.bl (decide (sg = sg2 ∧ rs = rs2))) H
end
end K57
set_option Elab.async false
set_option linter.all false
set_option maxRecDepth 100000
set_option maxHeartbeats 8000000
namespace K57
open PySem PySem.Spec PyProof.Rows L2 Bk
open Wp (Keep wo_lt wo_le wo_gt wo_ge wo_eq wo_ne wo_in wo_nin wo_add wo_mul op_shlB ws_any wc_int wc_isi u65)
abbrev s_NotSettled___init__ : Stmt := inClass (topS 8) 0
abbrev N_NotSettled___init__ : List Str := ["self", "text"]
local macro_rules | `(tactic| walk_at "W") => `(tactic| first
  | (with_reducible first
    | refine Wp.seq ?_ | refine Wp.asg ?_ | refine Wp.ret ?_ | refine Wp.retN ?_ | refine Wp.drop ?_ | refine Wp.nxt ?_ | refine Wp.ifs ?_ | refine Wp.gname ?_
    | refine Wp.op ?_ | refine Wp.un ?_ | refine Wp.tst ?_ | refine Wp.tb' ?_ | refine Wp.tnot ?_ | refine Wp.tand ?_ | refine Wp.tor ?_ | refine Wp.tandV ?_ | refine Wp.torV ?_ | refine Wp.tnotV ?_ | refine Wp.tif ?_ | refine Wp.tchain ?_
    | refine Wp.cb ?_ | refine Wp.call ?_ | refine Wp.cons ?_ | refine Wp.nil ?_ | refine Wp.gsub ?_ | refine Wp.cst ?_ | refine Wp.i0 ?_ | refine Wp.int1 ?_ | refine Wp.eb ?_ | refine Wp.ei ?_
    | refine Wp.gnil ?_ | refine Wp.gcons ?_ | refine Wp.mko ?_ | refine Wp.bm ?_ | refine Wp.ienum ?_ | refine Wp.tru ?_ | refine Wp.u1 ?_ | refine Wp.for_ ?_ | refine Wp.lc ?_ | refine Wp.istr ?_ | refine Wp.ilist ?_ | refine Wp.itup ?_ | refine Wp.irng1 ?_ | refine Wp.irng2 ?_ | refine Wp.yes ?_ | refine Wp.es ?_ | refine Wp.er ?_ | refine Wp.sl ?_ | refine Wp.nopart ?_ | refine Wp.part ?_ | refine Wp.lst ?_ | refine Wp.tup ?_
    | refine Wp.din ?_ | refine Wp.dnotin ?_ | refine Wp.dget ?_ | refine Wp.dget2 ?_ | refine Wp.dput ?_ | refine Wp.dnewK ?_ | refine Wp.dnewT ?_ | refine Wp.bm0 ?_ | refine Wp.m1 ?_ | refine Wp.exs ?_ | refine Wp.is0 ?_ | refine Wp.isnot0 ?_ | refine Wp.fld ?_ | refine Wp.sfld ?_
    | refine Wp.par ?_ | refine Wp.parV ?_ | refine Wp.brk ?_ | refine Wp.aug ?_ | refine Wp.ipaI ?_ | refine Wp.ipsI ?_ | refine Bk.ienumS ?_ | refine Wp.make_ ?_ | refine Wp.itnn ?_ | refine Wp.ltI ?_ | refine Wp.leI ?_ | refine Wp.leS ?_ | refine Wp.inSg ?_ | refine Wp.gtI ?_ | refine Wp.geI ?_ | refine Wp.eqI ?_ | refine Wp.neI ?_ | refine Wp.addI ?_ | refine Wp.ltS ?_ | refine Wp.eqS ?_ | refine Wp.neS ?_)
  | ((with_reducible refine' Wp.var ?hv ?_); (case hv => exact rfl))
  | ((with_reducible refine' Wp.ixl ?hs ?he ?_); (case hs => first | exact SqL.of upd_same | exact SqL.of (by assumption) | assumption); (case he => exact rfl))
  | ((with_reducible refine' Wp.setl ?hs ?he ?_); (case hs => first | exact upd_same | assumption); (case he => exact rfl))
  | ((with_reducible refine' Wp.modP ?hs ?_); (case hs => first | decide | omega))
  | ((with_reducible refine' Wp.divN ?hs ?ht ?_); (case hs => first | decide | omega); (case ht => first | decide | omega))
  | ((with_reducible refine' Wp.mulM ?hs ?ht ?_); (case hs => decide); (case ht => decide))
  | ((with_reducible refine' Wp.mulL ?hs ?_); (case hs => omega))
  | ((with_reducible refine' Wp.mulR ?hs ?_); (case hs => omega))
  | ((with_reducible refine' Wp.powS ?hs ?_); (case hs => decide))
  | ((with_reducible refine' Wp.shr ?hs ?_); (case hs => decide))
  | ((with_reducible refine' Wp.szl ?hs ?_); (case hs => first | decide | (simp; done)))
  | ((with_reducible refine' Wp.lenL ?hs ?_); (case hs => first | exact SqL.of upd_same | exact SqL.of (by assumption) | assumption))
  | ((with_reducible refine' Wp.lenT ?hs ?_); (case hs => first | exact SqT.of upd_same | exact SqT.of (by assumption) | assumption))
  | ((with_reducible refine' Wp.iteC ?hs ?_); (case hs => exact rfl)) | ((with_reducible refine' Wp.iteD ?hs ?_); (case hs => exact Bool.false_ne_true))
  | ((with_reducible refine' Wp.wp ?hs ?_); (case hs => rfl))
  | (with_reducible first | refine Wp.abs ?_ | refine Wp.max2 ?_ | refine Wp.min2 ?_)
  | ((with_reducible refine' Wp.sll ?hs ?_); (case hs => first | exact SqL.of upd_same | exact SqL.of (by assumption) | assumption)))
local macro_rules | `(tactic| walk_at "KQ") => `(tactic| first
  | exact Wp.kq "int" rfl (by decide +kernel) | exact Wp.kq "bool" rfl (by decide +kernel) | exact Wp.kq "str" rfl (by decide +kernel) | exact Wp.kq "list" rfl (by decide +kernel)
  | exact Wp.kq "tuple" rfl (by decide +kernel) | exact Wp.kq "NoneType" rfl (by decide +kernel) | exact Wp.kq "dict" rfl (by decide +kernel))

section
variable {P : Program} {w : World} {K : PySem.W.Frag} {mg : Str → Option Value} {base : Heap}
/-- a book that is asked to be settled -/
def spCheckedX (C CN : Addr) : Sp := fun vs H Q E => ∃ p sg rs, vs = [.ref p] ∧ BookAt C H p sg rs ∧
  ∀ os v, OvSorted os (ovAll rs) → QuarAt rs os v → (v = .non → Q (.ref p) H) ∧ (v ≠ .non → ∀ dd H', H dd = none → Same H H' → H' dd = some (.xd [("text", v)]) → E (.ref CN) (some dd) H')
end
end K57
set_option Elab.async false
set_option linter.all false
set_option maxRecDepth 100000
set_option maxHeartbeats 8000000
namespace K57
open PySem PySem.Spec PyProof.Rows L2 Bk
open Wp (Keep wo_lt wo_le wo_gt wo_ge wo_eq wo_ne wo_in wo_nin wo_add wo_mul op_shlB ws_any wc_int wc_isi u65)
abbrev s_ascending_texts : Stmt := topS 19
abbrev N_ascending_texts : List Str := ["texts", "_", "text"]
theorem sc_ascending_texts : FnScope N_ascending_texts ["texts"] (defScope s_ascending_texts) := ⟨rfl, rfl, rfl, by decide +kernel, rfl, by decide +kernel, by decide +kernel⟩
local macro_rules | `(tactic| walk_at "W") => `(tactic| first
  | (with_reducible first
    | refine Wp.seq ?_ | refine Wp.asg ?_ | refine Wp.ret ?_ | refine Wp.retN ?_ | refine Wp.drop ?_ | refine Wp.nxt ?_ | refine Wp.ifs ?_ | refine Wp.gname ?_
    | refine Wp.op ?_ | refine Wp.un ?_ | refine Wp.tst ?_ | refine Wp.tb' ?_ | refine Wp.tnot ?_ | refine Wp.tand ?_ | refine Wp.tor ?_ | refine Wp.tandV ?_ | refine Wp.torV ?_ | refine Wp.tnotV ?_ | refine Wp.tif ?_ | refine Wp.tchain ?_
    | refine Wp.cb ?_ | refine Wp.call ?_ | refine Wp.cons ?_ | refine Wp.nil ?_ | refine Wp.gsub ?_ | refine Wp.cst ?_ | refine Wp.i0 ?_ | refine Wp.int1 ?_ | refine Wp.eb ?_ | refine Wp.ei ?_
    | refine Wp.gnil ?_ | refine Wp.gcons ?_ | refine Wp.mko ?_ | refine Wp.bm ?_ | refine Wp.ienum ?_ | refine Wp.tru ?_ | refine Wp.u1 ?_ | refine Wp.for_ ?_ | refine Wp.lc ?_ | refine Wp.istr ?_ | refine Wp.ilist ?_ | refine Wp.itup ?_ | refine Wp.irng1 ?_ | refine Wp.irng2 ?_ | refine Wp.yes ?_ | refine Wp.es ?_ | refine Wp.er ?_ | refine Wp.sl ?_ | refine Wp.nopart ?_ | refine Wp.part ?_ | refine Wp.lst ?_ | refine Wp.tup ?_
    | refine Wp.din ?_ | refine Wp.dnotin ?_ | refine Wp.dget ?_ | refine Wp.dget2 ?_ | refine Wp.dput ?_ | refine Wp.dnewK ?_ | refine Wp.dnewT ?_ | refine Wp.bm0 ?_ | refine Wp.m1 ?_ | refine Wp.exs ?_ | refine Wp.is0 ?_ | refine Wp.isnot0 ?_ | refine Wp.fld ?_ | refine Wp.sfld ?_
    | refine Wp.par ?_ | refine Wp.parV ?_ | refine Wp.brk ?_ | refine Wp.aug ?_ | refine Wp.ipaI ?_ | refine Wp.ipsI ?_ | refine Bk.ienumS ?_ | refine Wp.make_ ?_ | refine Wp.itnn ?_ | refine Wp.ltI ?_ | refine Wp.leI ?_ | refine Wp.leS ?_ | refine Wp.inSg ?_ | refine Wp.gtI ?_ | refine Wp.geI ?_ | refine Wp.eqI ?_ | refine Wp.neI ?_ | refine Wp.addI ?_ | refine Wp.ltS ?_ | refine Wp.eqS ?_ | refine Wp.neS ?_)
  | ((with_reducible refine' Wp.var ?hv ?_); (case hv => exact rfl))
  | ((with_reducible refine' Wp.ixl ?hs ?he ?_); (case hs => first | exact SqL.of upd_same | exact SqL.of (by assumption) | assumption); (case he => exact rfl))
  | ((with_reducible refine' Wp.setl ?hs ?he ?_); (case hs => first | exact upd_same | assumption); (case he => exact rfl))
  | ((with_reducible refine' Wp.modP ?hs ?_); (case hs => first | decide | omega))
  | ((with_reducible refine' Wp.divN ?hs ?ht ?_); (case hs => first | decide | omega); (case ht => first | decide | omega))
  | ((with_reducible refine' Wp.mulM ?hs ?ht ?_); (case hs => decide); (case ht => decide))
  | ((with_reducible refine' Wp.mulL ?hs ?_); (case hs => omega))
  | ((with_reducible refine' Wp.mulR ?hs ?_); (case hs => omega))
  | ((with_reducible refine' Wp.powS ?hs ?_); (case hs => decide))
  | ((with_reducible refine' Wp.shr ?hs ?_); (case hs => decide))
  | ((with_reducible refine' Wp.szl ?hs ?_); (case hs => first | decide | (simp; done)))
  | ((with_reducible refine' Wp.lenL ?hs ?_); (case hs => first | exact SqL.of upd_same | exact SqL.of (by assumption) | assumption))
  | ((with_reducible refine' Wp.lenT ?hs ?_); (case hs => first | exact SqT.of upd_same | exact SqT.of (by assumption) | assumption))
  | ((with_reducible refine' Wp.iteC ?hs ?_); (case hs => exact rfl)) | ((with_reducible refine' Wp.iteD ?hs ?_); (case hs => exact Bool.false_ne_true))
  | ((with_reducible refine' Wp.wp ?hs ?_); (case hs => rfl))
  | (with_reducible first | refine Wp.abs ?_ | refine Wp.max2 ?_ | refine Wp.min2 ?_)
  | ((with_reducible refine' Wp.sll ?hs ?_); (case hs => first | exact SqL.of upd_same | exact SqL.of (by assumption) | assumption)))
local macro_rules | `(tactic| walk_at "KQ") => `(tactic| first
  | exact Wp.kq "int" rfl (by decide +kernel) | exact Wp.kq "bool" rfl (by decide +kernel) | exact Wp.kq "str" rfl (by decide +kernel) | exact Wp.kq "list" rfl (by decide +kernel)
  | exact Wp.kq "tuple" rfl (by decide +kernel) | exact Wp.kq "NoneType" rfl (by decide +kernel) | exact Wp.kq "dict" rfl (by decide +kernel))

section
variable {P : Program} {w : World} {K : PySem.W.Frag} {mg : Str → Option Value} {base : Heap}
def spAsc (K : PySem.W.Frag) : Sp := fun vs H Q _ => ∃ a xs, vs = [.ref a] ∧ SqL K H a (tx xs) ∧ (∀ x ∈ xs, x.length ≤ 1000) ∧ xs.length ≤ 20000 ∧ ∀ H' t, Same H H' → H t = none → H' t = some (.tup (tx (asc xs))) → Q (.ref t) H'
theorem ok_asc (B : Wp.Blt mg) {f : Addr} {fd : FuncData} (F : Fun K "ascending_texts" "ascending_texts" s_ascending_texts f fd) : FnOk P w K mg base CX0 1 f fd ["texts"] (spAsc K) := by
  refine F.ok sc_ascending_texts (fun vs H Q E h => ?_) (fun cdv A outer s H vs Q E hr h => ?_)
  · obtain ⟨a, xs, rfl, _⟩ := h
    rfl
  · obtain ⟨a, xs, rfl, ha, hz, hl, q⟩ := h
    refine ⟨_, (pss_one (ps_ret (pe_callTy (Wp.wc_tuple (K := K)) (by rfl) B.tuple (by decide +kernel) (pa_cons (pe_lc (own := [("_", 1), ("text", 2)]) (g := (Wp.gTupU K 2 (gCons (gName 1) (gCons (gName 2) gNil)))) (by rfl) sc_ascending_texts.nd (Wp.wi_list (K := K) (pe_callB (Wp.wc_sorted (K := K) (u65 hr)) (by rfl) B.sorted (by decide +kernel) (pa_cons (pe_lc (own := [("text", 2)]) (g := gName 2) (by rfl) sc_ascending_texts.nd (Wp.wi_list (K := K) (pv 0)) (blkOk_by (own := [("text", 2)]) (N := N_ascending_texts) (sc := defScope s_ascending_texts) (by decide +kernel)) (fun _ _ _ _ _ => pg_name (i := 2) sc_ascending_texts.nd rfl (Or.inl rfl)) (fun _ _ _ _ _ => pts_nil) (fun _ _ _ _ _ => (pe_tup (pa_cons (pe_callB (Wp.wc_len (K := K)) (by rfl) B.len (by decide +kernel) (pa_cons (pv 2) pa_nil)) (pa_cons (pv 2) pa_nil))))) pa_nil))) (blkOk_by (own := [("_", 1), ("text", 2)]) (N := N_ascending_texts) (sc := defScope s_ascending_texts) (by decide +kernel)) (fun _ _ _ _ _ => Wp.wg_tup (K := K) (n := 2) rfl (pgs_cons (pg_name (i := 1) sc_ascending_texts.nd rfl (Or.inl rfl)) (pgs_cons (pg_name (i := 2) sc_ascending_texts.nd rfl (Or.inl rfl)) pgs_nil))) (fun _ _ _ _ _ => pts_nil) (fun _ _ _ _ _ => (pv 2))) pa_nil)))), ?_⟩
    refine Wp.st (σ' := [some (.ref a), none, none]) rfl ?_
    have hbig : (1000000 : Nat) < sizeLine := by decide
    repeat walk_at "W"
    refine ⟨⟨_, ha⟩, fun A hA => ?_⟩
    have up : ∀ {G : Hp} {D : Addr} (o : HO), H D = none → Same H G → Same H (upd G D o) := fun o h s b u e => by rw [upd_ne (ne_of_none e h)]; exact s _ _ e
    refine Wp.lcIt (walk_list (xs := tx xs)) (fun i H1 => Same H H1 ∧ ∃ ws : List V, H1 A = some (.lst ws) ∧ DpAll K H1 ws (((xs.take i).map mkS).map tx2)) ⟨Wp.same_upd hA, [], upd_same, .nil⟩ (fun i H1 _ h => h.1.seq ha) ?_ ?_
    · rintro i x H1 H1' hi ⟨s1, ws, h1, h2⟩ ⟨rfl, hx⟩
      rw [List.getElem?_map] at hx
      obtain ⟨u, hu, rfl⟩ := Option.map_eq_some_iff.mp hx
      have hul := hz u (List.mem_of_getElem? hu)
      have hiu := (List.getElem?_eq_some_iff.mp hu).1
      have hwl := Wp.dps_len h2
      rw [List.length_map, List.length_map, List.length_take] at hwl
      repeat walk_at "W"
      refine Wp.lenS (Nat.le_of_lt (by rw [len_mk]; omega)) ?_
      repeat walk_at "W"
      intro T hT
      have hTA : T ≠ A := fun z => by rw [z, h1] at hT; cases hT
      have u1 := Wp.same_upd (o := .tup [.int ((mkS u).length : Nat), .str (mkS u)]) hT
      refine ⟨ws, u1 _ _ h1, by omega, up _ hA (s1.trans u1), _, upd_same, ?_⟩
      rw [List.take_add_one, hu, List.map_append, List.map_append]
      refine Wp.dps_append (Wp.dps_upd (u1 _ _ h1) _ _ ?_ (Wp.dps_same u1 _ _ h2)) (.cons (Wp.dp_upd (u1 _ _ h1) _ _ rfl (.tup (SqT.of upd_same) (.cons (.int _) (.cons (.str _) .nil)))) .nil)
      exact tx2s_no _
    · rintro H1 ⟨s1, ws, h1, h2⟩
      rw [List.length_map, List.take_length] at h2
      have hwl := Wp.dps_len h2
      rw [List.length_map, List.length_map] at hwl
      repeat walk_at "W"
      refine ⟨A, ws, _, rfl, SqL.of h1, h2, tx2_alike _, tx2_sortable _, (fun d hd => by obtain ⟨o, _, rfl⟩ := List.mem_map.mp hd; exact tx2_depth o), fun zs p hperm hzs hp => ?_⟩
      have hps := s1.free hp
      have u1 := Wp.same_upd (o := .lst (zs.map (·.1))) hp
      have hzl : zs.length = xs.length := by rw [hperm.length_eq, List.length_zip, List.length_map, List.length_map]; omega
      have hzm := tx_sorted (xs := xs.map mkS) (ws := ws) (by rw [List.length_map]; exact hwl)
      rw [← hzs, List.map_map, show (cl ∘ mkS) = id from funext fun y => cl_mk y, List.map_id] at hzm
      refine ⟨p, rfl, ⟨_, SqL.of upd_same⟩, fun A2 hA2 => ?_⟩
      have hA20 : H A2 = none := by
        rcases Decidable.em (A2 = p) with z | z
        · rw [z]; exact hps
        · rw [upd_ne z] at hA2; exact s1.free hA2
      have hAp : A2 ≠ p := fun z => by rw [z, upd_same] at hA2; cases hA2
      refine Wp.lcIt (walk_list (xs := zs.map (·.1))) (fun i H2 => Same (upd H1 p (.lst (zs.map (·.1)))) H2 ∧ H2 A2 = some (.lst (tx ((asc xs).take i)))) ⟨Wp.same_upd hA2, upd_same⟩ (fun i H2 _ h => SqL.of (h.1 _ _ upd_same)) ?_ ?_
      · rintro i x H2 H2' hi ⟨s2, h3⟩ ⟨rfl, hx⟩
        rw [List.length_map] at hi
        rw [List.getElem?_map] at hx
        obtain ⟨qz, hqz, rfl⟩ := Option.map_eq_some_iff.mp hx
        have hmem := hperm.mem_iff.mp (List.mem_of_getElem? hqz)
        have hdq := Wp.dp_same (u1.trans s2) _ _ (dps_zip h2 _ hmem)
        obtain ⟨z, _, ez⟩ := List.mem_map.mp (List.of_mem_zip (show (qz.1, qz.2) ∈ ws.zip ((xs.map mkS).map tx2) from hmem)).2
        have hat : (asc xs)[i]? = some (cl z) := by
          rw [← hzm, List.getElem?_map, hqz]
          show some (dec2 qz.2) = _
          rw [← ez]; rfl
        rw [← ez] at hdq
        generalize qz.1 = xv at hdq ⊢
        cases hdq with
        | @tup a ys _ hs ha2 =>
        cases ha2 with
        | cons a1 ha2 =>
        cases ha2 with
        | cons a2 ha2 =>
        cases ha2; cases a1; cases a2
        refine Wp.gt hs rfl ?_
        repeat walk_at "W"
        refine ⟨_, h3, by rw [List.length_map, List.length_take]; omega, fun b u e => ?_, ?_⟩
        · rw [upd_ne (ne_of_none e hA2)]; exact s2 _ _ e
        · rw [upd_same, List.take_add_one, hat, tx_app]; simp [tx, mk_cl]
      · rintro H2 ⟨s2, h3⟩
        have hal : (asc xs).length = xs.length := (asc_perm xs).length_eq
        rw [List.length_map, hzl, ← hal, List.take_length] at h3
        repeat walk_at "W"
        refine Wp.tupL (SqL.of h3) fun t ht => ?_
        have s3 := (s1.trans u1).trans s2
        exact q _ t (s3.trans (Wp.same_upd ht)) (s3.free ht) upd_same
end
end K57
set_option Elab.async false
set_option linter.all false
set_option maxRecDepth 100000
set_option maxHeartbeats 8000000
namespace K57
open PySem PySem.Spec PyProof.Rows L2 Bk
open Wp (Keep wo_lt wo_le wo_gt wo_ge wo_eq wo_ne wo_in wo_nin wo_add wo_mul op_shlB ws_any wc_int wc_isi u65)
abbrev s_has_proper_piece : Stmt := topS 39
abbrev N_has_proper_piece : List Str := ["text", "texts", "start", "end"]
theorem sc_has_proper_piece : FnScope N_has_proper_piece ["text", "texts"] (defScope s_has_proper_piece) := ⟨rfl, rfl, rfl, by decide +kernel, rfl, by decide +kernel, by decide +kernel⟩
local macro_rules | `(tactic| walk_at "W") => `(tactic| first
  | (with_reducible first
    | refine Wp.seq ?_ | refine Wp.asg ?_ | refine Wp.ret ?_ | refine Wp.retN ?_ | refine Wp.drop ?_ | refine Wp.nxt ?_ | refine Wp.ifs ?_ | refine Wp.gname ?_
    | refine Wp.op ?_ | refine Wp.un ?_ | refine Wp.tst ?_ | refine Wp.tb' ?_ | refine Wp.tnot ?_ | refine Wp.tand ?_ | refine Wp.tor ?_ | refine Wp.tandV ?_ | refine Wp.torV ?_ | refine Wp.tnotV ?_ | refine Wp.tif ?_ | refine Wp.tchain ?_
    | refine Wp.cb ?_ | refine Wp.call ?_ | refine Wp.cons ?_ | refine Wp.nil ?_ | refine Wp.gsub ?_ | refine Wp.cst ?_ | refine Wp.i0 ?_ | refine Wp.int1 ?_ | refine Wp.eb ?_ | refine Wp.ei ?_
    | refine Wp.gnil ?_ | refine Wp.gcons ?_ | refine Wp.mko ?_ | refine Wp.bm ?_ | refine Wp.ienum ?_ | refine Wp.tru ?_ | refine Wp.u1 ?_ | refine Wp.for_ ?_ | refine Wp.lc ?_ | refine Wp.istr ?_ | refine Wp.ilist ?_ | refine Wp.itup ?_ | refine Wp.irng1 ?_ | refine Wp.irng2 ?_ | refine Wp.yes ?_ | refine Wp.es ?_ | refine Wp.er ?_ | refine Wp.sl ?_ | refine Wp.nopart ?_ | refine Wp.part ?_ | refine Wp.lst ?_ | refine Wp.tup ?_
    | refine Wp.din ?_ | refine Wp.dnotin ?_ | refine Wp.dget ?_ | refine Wp.dget2 ?_ | refine Wp.dput ?_ | refine Wp.dnewK ?_ | refine Wp.dnewT ?_ | refine Wp.bm0 ?_ | refine Wp.m1 ?_ | refine Wp.exs ?_ | refine Wp.is0 ?_ | refine Wp.isnot0 ?_ | refine Wp.fld ?_ | refine Wp.sfld ?_
    | refine Wp.par ?_ | refine Wp.parV ?_ | refine Wp.brk ?_ | refine Wp.aug ?_ | refine Wp.ipaI ?_ | refine Wp.ipsI ?_ | refine Bk.ienumS ?_ | refine Wp.make_ ?_ | refine Wp.itnn ?_ | refine Wp.ltI ?_ | refine Wp.leI ?_ | refine Wp.leS ?_ | refine Wp.inSg ?_ | refine Wp.gtI ?_ | refine Wp.geI ?_ | refine Wp.eqI ?_ | refine Wp.neI ?_ | refine Wp.addI ?_ | refine Wp.ltS ?_ | refine Wp.eqS ?_ | refine Wp.neS ?_)
  | ((with_reducible refine' Wp.var ?hv ?_); (case hv => exact rfl))
  | ((with_reducible refine' Wp.ixl ?hs ?he ?_); (case hs => first | exact SqL.of upd_same | exact SqL.of (by assumption) | assumption); (case he => exact rfl))
  | ((with_reducible refine' Wp.setl ?hs ?he ?_); (case hs => first | exact upd_same | assumption); (case he => exact rfl))
  | ((with_reducible refine' Wp.modP ?hs ?_); (case hs => first | decide | omega))
  | ((with_reducible refine' Wp.divN ?hs ?ht ?_); (case hs => first | decide | omega); (case ht => first | decide | omega))
  | ((with_reducible refine' Wp.mulM ?hs ?ht ?_); (case hs => decide); (case ht => decide))
  | ((with_reducible refine' Wp.mulL ?hs ?_); (case hs => omega))
  | ((with_reducible refine' Wp.mulR ?hs ?_); (case hs => omega))
  | ((with_reducible refine' Wp.powS ?hs ?_); (case hs => decide))
  | ((with_reducible refine' Wp.shr ?hs ?_); (case hs => decide))
  | ((with_reducible refine' Wp.szl ?hs ?_); (case hs => first | decide | (simp; done)))
  | ((with_reducible refine' Wp.lenL ?hs ?_); (case hs => first | exact SqL.of upd_same | exact SqL.of (by assumption) | assumption))
  | ((with_reducible refine' Wp.lenT ?hs ?_); (case hs => first | exact SqT.of upd_same | exact SqT.of (by assumption) | assumption))
  | ((with_reducible refine' Wp.iteC ?hs ?_); (case hs => exact rfl)) | ((with_reducible refine' Wp.iteD ?hs ?_); (case hs => exact Bool.false_ne_true))
  | ((with_reducible refine' Wp.wp ?hs ?_); (case hs => rfl))
  | (with_reducible first | refine Wp.abs ?_ | refine Wp.max2 ?_ | refine Wp.min2 ?_)
  | ((with_reducible refine' Wp.sll ?hs ?_); (case hs => first | exact SqL.of upd_same | exact SqL.of (by assumption) | assumption)))
local macro_rules | `(tactic| walk_at "KQ") => `(tactic| first
  | exact Wp.kq "int" rfl (by decide +kernel) | exact Wp.kq "bool" rfl (by decide +kernel) | exact Wp.kq "str" rfl (by decide +kernel) | exact Wp.kq "list" rfl (by decide +kernel)
  | exact Wp.kq "tuple" rfl (by decide +kernel) | exact Wp.kq "NoneType" rfl (by decide +kernel) | exact Wp.kq "dict" rfl (by decide +kernel))

section
variable {P : Program} {w : World} {K : PySem.W.Frag} {mg : Str → Option Value} {base : Heap}
def spProper : Sp := fun vs H Q _ => ∃ z d kvs L, vs = [.str z, .ref d] ∧ Rd H d (.dK kvs) ∧ (∀ x, (valV kvs (Sum.inr x)).isSome = true ↔ x ∈ L) ∧ z.length ≤ 900 ∧ ∀ b, (b = true ↔ properP L (cl z)) → Q (.bl b) H
theorem ok_proper (B : Wp.Blt mg) {f : Addr} {fd : FuncData} (F : Fun K "has_proper_piece" "has_proper_piece" s_has_proper_piece f fd) : FnOk P w K mg base CX0 1 f fd ["text", "texts"] spProper := by
  refine F.ok sc_has_proper_piece (fun vs H Q E h => ?_) (fun cdv A outer s H vs Q E hr h => ?_)
  · obtain ⟨z, d, kvs, L, rfl, _⟩ := h
    rfl
  · obtain ⟨z, d, kvs, L, rfl, hd, hL, hz, q⟩ := h
    refine ⟨_, (pss_cons (ps_for PassesOwn.never rfl (pi_range1 (by rfl) B.range (pa_cons (pe_callB (Wp.wc_len (K := K)) (by rfl) B.len (by decide +kernel) (pa_cons (pv 0) pa_nil)) pa_nil)) (pg_name (i := 2) sc_has_proper_piece.nd rfl (by first | exact .inl rfl | exact .inr rfl)) (pss_one (ps_for PassesOwn.never rfl (pi_range2 (by rfl) B.range (pa_cons (pe_op (wo_add (K := K)) (pv 2) pe_int) (pa_cons (pe_op (wo_add (K := K)) (pe_callB (Wp.wc_len (K := K)) (by rfl) B.len (by decide +kernel) (pa_cons (pv 0) pa_nil)) pe_int) pa_nil))) (pg_name (i := 3) sc_has_proper_piece.nd rfl (by first | exact .inl rfl | exact .inr rfl)) (pss_one (ps_if (PW.pt (pw_and (pt_cmpR wo_lt (pe_op op_sub (pv 3) (pv 2)) (pe_callB (Wp.wc_len (K := K)) (by rfl) B.len (by decide +kernel) (pa_cons (pv 0) pa_nil)) (nomark _)) (pw_and1 (pt_cmp (pc_din (hu_of hr) (pe_slice (ws_any (K := K)) (pv 0) (po_some (pv 2)) (po_some (pv 3))) (pv 1)))))) (pss_one (ps_ret pe_bl)) pss_nil)))))
  (pss_one (ps_ret pe_bl))), ?_⟩
    refine Wp.st (σ' := [some (.str z), some (.ref d), none, none]) rfl ?_
    have hzl := len_cl z
    repeat walk_at "W"
    refine Wp.lenS (Nat.le_of_lt (small1000 (by omega))) ?_
    repeat walk_at "W"
    refine ⟨_, rfl, by omega, by omega, ?_⟩
    refine Wp.forIt walk_range (fun i σ1 H1 => ∃ x2 x3, σ1 = [some (.str z), some (.ref d), x2, x3] ∧ H1 = H ∧ ∀ i' j, i' < i → i' < j → j ≤ z.length → j - i' < z.length → mkS (((cl z).drop i').take (j - i')) ∉ L) ⟨_, _, rfl, rfl, fun i' j h => by omega⟩ (fun _ _ _ _ _ => trivial) ?_ ?_
    · rintro i x σ1 H1 H1' hi ⟨x2, x3, rfl, eH, hno⟩ ⟨eH', rfl⟩
      rw [eH', eH]
      simp only [Int.zero_add]
      have hi2 : i < z.length := by omega
      repeat walk_at "W"
      refine Wp.lenS (Nat.le_of_lt (small1000 (by omega))) ?_
      repeat walk_at "W"
      refine ⟨_, _, rfl, ⟨by omega, by omega, by omega, by omega⟩, ?_⟩
      refine Wp.forIt walk_range (fun k σ1 H2 => ∃ x3, σ1 = [some (.str z), some (.ref d), some (.int (i : Nat)), x3] ∧ H2 = H ∧ ∀ j, i < j → j < i + 1 + k → j ≤ z.length → j - i < z.length → mkS (((cl z).drop i).take (j - i)) ∉ L) ⟨_, rfl, rfl, fun j h h2 => by omega⟩ (fun _ _ _ _ _ => trivial) ?_ ?_
      · rintro k x σ1 H2 H2' hk ⟨x3, rfl, eH2, hno2⟩ ⟨eH2', rfl⟩
        rw [eH2', eH2]
        have hk2 : i + 1 + k ≤ z.length := by omega
        have hj : ((i : Nat) : Int) + 1 + (k : Nat) = ((i + 1 + k : Nat) : Int) := by omega
        dsimp only
        rw [hj]
        have step : (i + 1 + k - i < z.length → mkS (((cl z).drop i).take (i + 1 + k - i)) ∉ L) → ∀ j, i < j → j < i + 1 + (k + 1) → j ≤ z.length → j - i < z.length → mkS (((cl z).drop i).take (j - i)) ∉ L := fun h j h1 h2 h3 h4 => by
          by_cases e : j = i + 1 + k
          · subst e; exact h h4
          · exact hno2 j h1 (by omega) h3 h4
        refine Wp.gname ?_
        with_reducible refine Wp.ifs ?_
        refine Wp.cutT (fun b H' => H' = H ∧ (b = true ↔ (i + 1 + k - i < z.length ∧ mkS (((cl z).drop i).take (i + 1 + k - i)) ∈ L))) (fun R hRR => ?_) ?_
        · repeat walk_at "W"
          refine Wp.lenS (Nat.le_of_lt (small1000 (by omega))) ?_
          repeat walk_at "W"
          refine Wp.itd (fun e => ?_) (fun e => ?_)
          · repeat walk_at "W"
            refine sls (by omega) ?_
            rw [cutS_mid (i := ((i : Nat) : Int)) (j := ((i + 1 + k : Nat) : Int)) i (i + 1 + k) rfl rfl (by omega)]
            repeat walk_at "W"
            refine Wp.dK_inR hd ?_
            repeat walk_at "W"
            exact hRR _ _ ⟨rfl, by rw [hL]; exact ⟨fun h => ⟨by omega, h⟩, fun h => h.2⟩⟩
          · exact hRR _ _ ⟨rfl, by simp; intro h; omega⟩
        · rintro b H3 ⟨rfl, hb⟩
          cases b with
          | true =>
            obtain ⟨h1, h2⟩ := hb.mp rfl
            refine Wp.iteC rfl ?_
            repeat walk_at "W"
            exact q _ ⟨fun _ => proper_at (by omega) (by omega) (by omega) h2, fun _ => rfl⟩
          | false =>
            refine Wp.iteD Bool.false_ne_true ?_
            repeat walk_at "W"
            exact ⟨_, rfl, rfl, step fun h1 h2 => Bool.false_ne_true (hb.mpr ⟨h1, h2⟩)⟩
      · rintro σ2 H2 ⟨x3, rfl, eH2, hno2⟩
        refine ⟨_, _, rfl, eH2, fun i' j h1 h2 h3 h4 => ?_⟩
        by_cases e : i' = i
        · subst e
          exact hno2 j h2 (by omega) h3 h4
        · exact hno i' j (by omega) h2 h3 h4
    · rintro σ2 H2 ⟨x2, x3, rfl, eH2, hno⟩
      rw [eH2]
      repeat walk_at "W"
      refine q _ ⟨fun h => (Bool.false_ne_true h).elim, fun h => absurd h (proper_none fun i j h1 h2 h3 h4 => ?_)⟩
      rw [hzl] at h1 h3 h4
      exact hno i j (by omega) h2 h3 h4
end
end K57
set_option Elab.async false
set_option linter.all false
set_option maxRecDepth 100000
set_option maxHeartbeats 8000000
namespace K57
open PySem PySem.Spec PyProof.Rows L2 Bk
open Wp (Keep wo_lt wo_le wo_gt wo_ge wo_eq wo_ne wo_in wo_nin wo_add wo_mul op_shlB ws_any wc_int wc_isi u65)
abbrev s_least_rules : Stmt := topS 40
abbrev N_least_rules : List Str := ["book", "rights", "left", "lefts"]
theorem sc_least_rules : FnScope N_least_rules ["book"] (defScope s_least_rules) := ⟨rfl, rfl, rfl, by decide +kernel, rfl, by decide +kernel, by decide +kernel⟩
local macro_rules | `(tactic| walk_at "W") => `(tactic| first
  | (with_reducible first
    | refine Wp.seq ?_ | refine Wp.asg ?_ | refine Wp.ret ?_ | refine Wp.retN ?_ | refine Wp.drop ?_ | refine Wp.nxt ?_ | refine Wp.ifs ?_ | refine Wp.gname ?_
    | refine Wp.op ?_ | refine Wp.un ?_ | refine Wp.tst ?_ | refine Wp.tb' ?_ | refine Wp.tnot ?_ | refine Wp.tand ?_ | refine Wp.tor ?_ | refine Wp.tandV ?_ | refine Wp.torV ?_ | refine Wp.tnotV ?_ | refine Wp.tif ?_ | refine Wp.tchain ?_
    | refine Wp.cb ?_ | refine Wp.call ?_ | refine Wp.cons ?_ | refine Wp.nil ?_ | refine Wp.gsub ?_ | refine Wp.cst ?_ | refine Wp.i0 ?_ | refine Wp.int1 ?_ | refine Wp.eb ?_ | refine Wp.ei ?_
    | refine Wp.gnil ?_ | refine Wp.gcons ?_ | refine Wp.mko ?_ | refine Wp.bm ?_ | refine Wp.ienum ?_ | refine Wp.tru ?_ | refine Wp.u1 ?_ | refine Wp.for_ ?_ | refine Wp.lc ?_ | refine Wp.istr ?_ | refine Wp.ilist ?_ | refine Wp.itup ?_ | refine Wp.irng1 ?_ | refine Wp.irng2 ?_ | refine Wp.yes ?_ | refine Wp.es ?_ | refine Wp.er ?_ | refine Wp.sl ?_ | refine Wp.nopart ?_ | refine Wp.part ?_ | refine Wp.lst ?_ | refine Wp.tup ?_
    | refine Wp.din ?_ | refine Wp.dnotin ?_ | refine Wp.dget ?_ | refine Wp.dget2 ?_ | refine Wp.dput ?_ | refine Wp.dnewK ?_ | refine Wp.dnewT ?_ | refine Wp.bm0 ?_ | refine Wp.m1 ?_ | refine Wp.exs ?_ | refine Wp.is0 ?_ | refine Wp.isnot0 ?_ | refine Wp.fld ?_ | refine Wp.sfld ?_
    | refine Wp.par ?_ | refine Wp.parV ?_ | refine Wp.brk ?_ | refine Wp.aug ?_ | refine Wp.ipaI ?_ | refine Wp.ipsI ?_ | refine Bk.ienumS ?_ | refine Wp.make_ ?_ | refine Wp.itnn ?_ | refine Wp.ltI ?_ | refine Wp.leI ?_ | refine Wp.leS ?_ | refine Wp.inSg ?_ | refine Wp.gtI ?_ | refine Wp.geI ?_ | refine Wp.eqI ?_ | refine Wp.neI ?_ | refine Wp.addI ?_ | refine Wp.ltS ?_ | refine Wp.eqS ?_ | refine Wp.neS ?_)
  | ((with_reducible refine' Wp.var ?hv ?_); (case hv => exact rfl))
  | ((with_reducible refine' Wp.ixl ?hs ?he ?_); (case hs => first | exact SqL.of upd_same | exact SqL.of (by assumption) | assumption); (case he => exact rfl))
  | ((with_reducible refine' Wp.setl ?hs ?he ?_); (case hs => first | exact upd_same | assumption); (case he => exact rfl))
  | ((with_reducible refine' Wp.modP ?hs ?_); (case hs => first | decide | omega))
  | ((with_reducible refine' Wp.divN ?hs ?ht ?_); (case hs => first | decide | omega); (case ht => first | decide | omega))
  | ((with_reducible refine' Wp.mulM ?hs ?ht ?_); (case hs => decide); (case ht => decide))
  | ((with_reducible refine' Wp.mulL ?hs ?_); (case hs => omega))
  | ((with_reducible refine' Wp.mulR ?hs ?_); (case hs => omega))
  | ((with_reducible refine' Wp.powS ?hs ?_); (case hs => decide))
  | ((with_reducible refine' Wp.shr ?hs ?_); (case hs => decide))
  | ((with_reducible refine' Wp.szl ?hs ?_); (case hs => first | decide | (simp; done)))
  | ((with_reducible refine' Wp.lenL ?hs ?_); (case hs => first | exact SqL.of upd_same | exact SqL.of (by assumption) | assumption))
  | ((with_reducible refine' Wp.lenT ?hs ?_); (case hs => first | exact SqT.of upd_same | exact SqT.of (by assumption) | assumption))
  | ((with_reducible refine' Wp.iteC ?hs ?_); (case hs => exact rfl)) | ((with_reducible refine' Wp.iteD ?hs ?_); (case hs => exact Bool.false_ne_true))
  | ((with_reducible refine' Wp.wp ?hs ?_); (case hs => rfl))
  | (with_reducible first | refine Wp.abs ?_ | refine Wp.max2 ?_ | refine Wp.min2 ?_)
  | ((with_reducible refine' Wp.sll ?hs ?_); (case hs => first | exact SqL.of upd_same | exact SqL.of (by assumption) | assumption)))
local macro_rules | `(tactic| walk_at "KQ") => `(tactic| first
  | exact Wp.kq "int" rfl (by decide +kernel) | exact Wp.kq "bool" rfl (by decide +kernel) | exact Wp.kq "str" rfl (by decide +kernel) | exact Wp.kq "list" rfl (by decide +kernel)
  | exact Wp.kq "tuple" rfl (by decide +kernel) | exact Wp.kq "NoneType" rfl (by decide +kernel) | exact Wp.kq "dict" rfl (by decide +kernel))

/-- the keys of a dict of texts -/
def KeysOk (H : Hp) (d : Addr) : Prop := ∃ kvs : List (Key × V), H d = some (.dK kvs) ∧ (kvs.map (·.1)).Nodup ∧ ∀ kv ∈ kvs, ∃ x, kv.1 = Sum.inr x
theorem KeysOk.same {H H' : Hp} {d : Addr} (s : Same H H') (h : KeysOk H d) : KeysOk H' d := by
  obtain ⟨kvs, h1, h2⟩ := h
  exact ⟨kvs, s _ _ h1, h2⟩
theorem keys_put {H : Hp} {d : Addr} {kvs : List (Key × V)} {x : Str} {v : V} (h : KeysOk H d) (e : H d = some (.dK kvs)) (hn : valV kvs (Sum.inr x) = none) {H' : Hp} (e' : H' d = some (.dK (putK kvs (Sum.inr x) v))) : KeysOk H' d := by
  obtain ⟨kvs', e1, nd, hs⟩ := h
  rw [e] at e1
  cases e1
  have ea : (kvs.any fun kv => decide (kv.1 = Sum.inr x)) = false := by rw [valV_any, hn]; rfl
  have ep : putK kvs (Sum.inr x) v = kvs ++ [(Sum.inr x, v)] := by unfold putK; rw [ea, if_neg Bool.false_ne_true]
  refine ⟨_, e', ?_, ?_⟩
  · rw [ep, List.map_append]
    refine List.nodup_append.mpr ⟨nd, by simp, ?_⟩
    intro a ha b hb hab
    subst hab
    obtain ⟨kv, hk, rfl⟩ := List.mem_map.mp ha
    have hb' : kv.1 = Sum.inr x := by simpa using hb
    rw [List.any_eq_false] at ea
    exact ea kv hk (by simp [hb'])
  · intro kv hk
    rw [ep] at hk
    rcases List.mem_append.mp hk with z | z
    · exact hs kv z
    · rw [List.mem_singleton.mp z]; exact ⟨x, rfl⟩
section
variable {P : Program} {w : World} {K : PySem.W.Frag} {mg : Str → Option Value} {base : Heap}
def spRightsK : Sp := fun vs H Q _ => ∃ t bs rs, vs = [.ref t] ∧ H t = some (.tup (bs.map V.ref)) ∧ RulesAt H bs rs ∧ rs.length ≤ 64 ∧ ∀ H' d, Same H H' → RightsAt H' d rs → KeysOk H' d → Q (.ref d) H'
theorem ok_rightsK (B : Wp.Blt mg) {f : Addr} {fd : FuncData} (F : Fun K "first_rights" "first_rights" s_first_rights f fd) : FnOk P w K mg base CX0 1 f fd ["rules"] spRightsK := by
  refine F.ok sc_first_rights (fun vs H Q E h => ?_) (fun cdv A outer s H vs Q E hr h => ?_)
  · obtain ⟨t, bs, rs, rfl, _⟩ := h
    rfl
  · obtain ⟨t, bs, rs, rfl, ht, hb, hl, q⟩ := h
    refine ⟨_, (pss_cons (ps_set (i := 1) sc_first_rights.nd rfl (by first | exact .inl rfl | exact .inr rfl) pe_dnewK)
  (pss_cons (ps_for PassesOwn.never rfl (Wp.wi_enum (K := K) (by rfl) B.enumerate (pa_cons (pv 0) pa_nil)) (Wp.wg_tup (K := K) (n := 2) rfl (pgs_cons (pg_name (i := 2) sc_first_rights.nd rfl (by first | exact .inl rfl | exact .inr rfl)) (pgs_cons (Wp.wg_tup (K := K) (n := 2) rfl (pgs_cons (pg_name (i := 3) sc_first_rights.nd rfl (by first | exact .inl rfl | exact .inr rfl)) (pgs_cons (pg_name (i := 4) sc_first_rights.nd rfl (by first | exact .inl rfl | exact .inr rfl)) pgs_nil))) pgs_nil))) (pss_one (ps_if (pt_cmp (pc_dnotin (hu_of hr) (pv 3) (pv 1))) (pss_one (ps_dput (hu_of hr) (pv 1) (pv 3) (pe_tup (pa_cons (pv 2) (pa_cons (pv 4) pa_nil))) rfl)) pss_nil)))
  (pss_one (ps_ret (pv 1))))), ?_⟩
    refine Wp.st (σ' := [some (.ref t), none, none, none, none]) rfl ?_
    repeat walk_at "W"
    intro D hD
    have sD := Wp.same_upd (o := .dK []) hD
    have hbl := hb.len
    repeat walk_at "W"
    refine ⟨t, bs.map V.ref, rfl, Wp.enumU (.inr (SqT.of ht)) sD (fun i σ1 H1 => ∃ x2 x3 x4, σ1 = [some (.ref t), some (.ref D), x2, x3, x4] ∧ Same H H1 ∧ RightsAt H1 D (rs.take i) ∧ KeysOk H1 D) ⟨_, _, _, rfl, sD, ⟨[], upd_same, by simp, fun x => trivial⟩, ⟨[], upd_same, .nil, fun kv h => nomatch h⟩⟩ (fun i σ1 H1 ⟨_, _, _, _, h, _⟩ => h) ?_ ?_⟩
    · rintro i x σ1 H1 T hx ⟨x2, x3, x4, rfl, s1, hR, hK⟩ hT
      obtain ⟨b, ⟨l, r⟩, rfl, hp, hbt⟩ := rulesAt_take hb hx
      have smT := Wp.same_upd (p := T) (o := .tup [.int (i : Nat), .ref b]) hT
      have sT := s1.trans smT
      have hi := (List.getElem?_eq_some_iff.mp hp).1
      have hlt : (rs.take i).length = i := by rw [List.length_take]; omega
      have htk : rs.take (i + 1) = rs.take i ++ [(l, r)] := by rw [List.take_add_one, hp]; rfl
      refine Wp.gt (SqT.of upd_same) rfl ?_
      repeat walk_at "W"
      refine Wp.gt (SqT.of (sT _ _ hbt)) rfl ?_
      repeat walk_at "W"
      obtain ⟨kvs, h1, h2, h3⟩ := (hR.same smT).ex
      refine Wp.dK_in h1 ?_
      rw [rights_get h3]
      repeat walk_at "W"
      refine Wp.itnb (fun e1 => ?_) (fun e1 => ?_)
      · have e1' : firstOf (rs.take i) l = none := by
          cases q : firstOf (rs.take i) l with
          | none => rfl
          | some _ => rw [q] at e1; cases e1
        have e2 : valV kvs (Sum.inr l) = none := by
          have := rights_get (x := l) h3
          rw [e1'] at this
          cases hv : valV kvs (Sum.inr l) with
          | none => rfl
          | some _ => rw [hv] at this; cases this
        repeat walk_at "W"
        intro T2 hT2
        have sm2 := Wp.same_upd (o := .tup [.int (i : Nat), .str r]) hT2
        repeat walk_at "W"
        refine Wp.dK_put (sm2 _ _ h1) (small1000 (by omega)) ?_
        have hH0 : H D = none := hD
        refine ⟨_, _, _, rfl, fun b o e => ?_, ?_, keys_put ((hK.same smT).same sm2) (sm2 _ _ h1) e2 upd_same⟩
        · rw [upd_ne (ne_of_none e hD)]
          exact sm2 _ _ (sT _ _ e)
        · rw [htk]
          exact rights_new (sm2 _ _ h1) h2 (fun x => (h3 x).same fun b xs e => sm2 _ _ e) e1' (by rw [hlt]; exact upd_same)
      · repeat walk_at "W"
        refine ⟨_, _, _, rfl, sT, ?_, hK.same smT⟩
        rw [htk]
        refine rights_old ⟨kvs, h1, h2, h3⟩ fun z => ?_
        rw [z] at e1; cases e1
    · rintro σ1 H1 ⟨x2, x3, x4, rfl, s1, hR, hK⟩
      rw [List.length_map, hbl, List.take_length] at hR
      repeat walk_at "W"
      exact q _ _ s1 hR hK
def spLeastR (C : Addr) : Sp := fun vs H Q _ => ∃ p sg rs, vs = [.ref p] ∧ BookAt C H p sg rs ∧ ∀ H' t bs ls, Same H H' → H t = none → H' t = some (.tup (bs.map V.ref)) → LeastL rs ls → ls.length ≤ 64 → RulesAt H' bs (leastR rs ls) → Q (.ref t) H'
theorem ok_leastR (B : Wp.Blt mg) {f fR fH fA fL C : Addr} {fd fdR fdH fdA fdL : FuncData} (F : Fun K "least_rules" "least_rules" s_least_rules f fd) (TB : BkC K C)
    (D_first_rights : Wp.Dh K mg "first_rights" fR fdR ["rules"]) (G_first_rights : FnOk P w K mg base CX0 1 fR fdR ["rules"] spRightsK)
    (D_has_proper_piece : Wp.Dh K mg "has_proper_piece" fH fdH ["text", "texts"]) (G_has_proper_piece : FnOk P w K mg base CX0 1 fH fdH ["text", "texts"] spProper)
    (D_ascending_texts : Wp.Dh K mg "ascending_texts" fA fdA ["texts"]) (G_ascending_texts : FnOk P w K mg base CX0 1 fA fdA ["texts"] (spAsc K))
    (D_left_over : Wp.Dh K mg "left_over" fL fdL ["rights", "text"]) (G_left_over : FnOk P w K mg base CX0 3 fL fdL ["rights", "text"] spLeft) : FnOk P w K mg base CX0 4 f fd ["book"] (spLeastR C) := by
  refine F.ok sc_least_rules (fun vs H Q E h => ?_) (fun cdv A outer s H vs Q E hr h => ?_)
  · obtain ⟨p, sg, rs, rfl, _⟩ := h
    rfl
  · obtain ⟨p, sg, rs, rfl, hB, q⟩ := h
    refine ⟨_, (pss_cons (ps_set (i := 1) sc_least_rules.nd rfl (by first | exact .inl rfl | exact .inr rfl) (pe_call G_first_rights (hr.mono (by decide)) (by rfl) D_first_rights.g D_first_rights.k D_first_rights.b .nil pass0 (pa_cons (Wp.wfld (K := K) (pe_fld (pv 0) rfl)) pa_nil)))
  (pss_cons (ps_lock (ps_setLc (i := 3) (own := [("left", 2)]) (g := gName 2) (by rfl) sc_least_rules.nd rfl rfl (sw_true rfl rfl rfl (by decide +kernel)) (pi_keys (pv 1)) (blkOk_by (own := [("left", 2)]) (N := N_least_rules) (sc := defScope s_least_rules) (by decide +kernel)) (fun _ _ _ _ _ => pg_name (i := 2) sc_least_rules.nd rfl (Or.inl rfl)) (fun _ _ _ _ _ => pts_one (pt_not (pt_val (pe_call G_has_proper_piece (hr.mono (by decide)) (by rfl) D_has_proper_piece.g D_has_proper_piece.k D_has_proper_piece.b .nil pass0 (pa_cons (pv 2) (pa_cons (pv 1) pa_nil)))))) (fun _ _ _ _ _ => (pv 2))))
  (pss_one (ps_ret (pe_callTy (Wp.wc_tuple (K := K)) (by rfl) B.tuple (by decide +kernel) (pa_cons (pe_lc (own := [("left", 2)]) (g := gName 2) (by rfl) sc_least_rules.nd (Wp.wi_tup (K := K) (pe_call G_ascending_texts (hr.mono (by decide)) (by rfl) D_ascending_texts.g D_ascending_texts.k D_ascending_texts.b .nil pass0 (pa_cons (pv 3) pa_nil))) (blkOk_by (own := [("left", 2)]) (N := N_least_rules) (sc := defScope s_least_rules) (by decide +kernel)) (fun _ _ _ _ _ => pg_name (i := 2) sc_least_rules.nd rfl (Or.inl rfl)) (fun _ _ _ _ _ => pts_nil) (fun _ _ _ _ _ => (pe_tup (pa_cons (pv 2) (pa_cons (pe_call G_left_over (hr.mono (by decide)) (by rfl) D_left_over.g D_left_over.k D_left_over.b .nil pass0 (pa_cons (pv 1) (pa_cons (pv 2) pa_nil))) pa_nil))))) pa_nil)))))), ?_⟩
    refine Wp.st (σ' := [some (.ref p), none, none, none]) rfl ?_
    have hg := hB.g
    have hrl := hB.l
    repeat walk_at "W"
    refine bk_rules TB hB fun t bs ht hb => ?_
    repeat walk_at "W"
    refine ⟨t, bs, rs, rfl, ht, hb, hB.l, fun H1 d s1 hR hK => ?_⟩
    repeat walk_at "W"
    obtain ⟨kvs, hkv, hkn, hks⟩ := hK
    obtain ⟨kvs', hkv', hkl, hkr⟩ := hR.ex
    rw [hkv] at hkv'
    cases hkv'
    have hmemK : ∀ x, (valV kvs (Sum.inr x)).isSome = true ↔ x ∈ rs.map (·.1) := fun x => by
      rw [rights_get hkr, first_iff]
    refine ⟨d, .dK kvs, hkv, trivial, fun od => ?_⟩
    have hLd : ∀ x ∈ rs.map (·.1), x.length ≤ 4 := fun x hx => by
      obtain ⟨q0, hq, rfl⟩ := List.mem_map.mp hx
      exact (hg q0 hq).1
    have hkx : ∀ x : Str, (∃ kv ∈ kvs, kv.1 = Sum.inr x) → x ∈ rs.map (·.1) := fun x ⟨kv, h1, h2⟩ => by
      rw [← hmemK, ← valV_any, List.any_eq_true]
      exact ⟨kv, h1, by simpa using h2⟩
    have hFd : (upd H1 d (.frz od (.dK kvs))) d = some (.frz od (.dK kvs)) := upd_same
    have hF1 : ∀ b o, b ≠ d → H1 b = some o → (upd H1 d (.frz od (.dK kvs))) b = some o := fun b o h e => by rw [upd_ne h]; exact e
    have hF0 : ∀ b, (upd H1 d (.frz od (.dK kvs))) b = none → H1 b = none := fun b e => by
      by_cases z : b = d
      · rw [z, hFd] at e; cases e
      · rw [upd_ne z] at e; exact e
    generalize upd H1 d (.frz od (.dK kvs)) = G0 at hFd hF1 hF0 ⊢
    repeat walk_at "W"
    refine ⟨.ref d, rfl, d, od, rfl, .inl ⟨kvs, hFd, fun A hA => ?_⟩⟩
    have hAd : A ≠ d := fun z => by rw [z, hFd] at hA; cases hA
    have hA1 := hF0 _ hA
    refine Wp.lcIt walk_keys (fun i G => Same G0 G ∧ ∃ ls, G A = some (.lst (tx ls)) ∧ ls.length ≤ i ∧ ls.Nodup ∧ ∀ l, l ∈ ls ↔ (∃ kv ∈ kvs.take i, kv.1 = Sum.inr (mkS l)) ∧ ¬ properP (rs.map (·.1)) l) ⟨Wp.same_upd hA, [], upd_same, Nat.le_refl _, .nil, fun l => by simp⟩ (fun i G _ h => h.1 _ _ hFd) ?_ ?_
    · rintro i x G G' hi ⟨s2, ls, h1, h2, h3, h4⟩ ⟨eG, k, v, hkv2, rfl⟩
      rw [eG]
      obtain ⟨x, ex⟩ := hks _ (List.mem_of_getElem? hkv2)
      simp only at ex
      subst ex
      have hxm := hkx x ⟨_, List.mem_of_getElem? hkv2, rfl⟩
      have hxl := hLd x hxm
      have htk : kvs.take (i + 1) = kvs.take i ++ [(Sum.inr x, v)] := by rw [List.take_add_one, hkv2]; rfl
      have hnew : ∀ kv ∈ kvs.take i, kv.1 ≠ Sum.inr x := fun kv hk e => by
        have h9 := hkn.sublist (List.take_sublist (i + 1) _)
        rw [← List.map_take, htk, List.map_append] at h9
        exact (List.nodup_append.mp h9).2.2 _ (List.mem_map.mpr ⟨kv, hk, rfl⟩) _ (by simp) e
      repeat walk_at "W"
      refine ⟨x, d, kvs, _, rfl, .inr ⟨od, s2 _ _ hFd⟩, hmemK, by omega, fun b hb => ?_⟩
      cases b with
      | true =>
        repeat walk_at "W"
        refine ⟨s2, ls, h1, by omega, h3, fun l => ?_⟩
        rw [h4, htk]
        refine ⟨fun ⟨⟨kv, e1, e2⟩, e3⟩ => ⟨⟨kv, List.mem_append_left _ e1, e2⟩, e3⟩, fun ⟨⟨kv, e1, e2⟩, e3⟩ => ⟨?_, e3⟩⟩
        rcases List.mem_append.mp e1 with z | z
        · exact ⟨kv, z, e2⟩
        · exfalso
          rw [List.mem_singleton.mp z] at e2
          have e4 : x = mkS l := Sum.inr.inj e2
          rw [e4, cl_mk] at hb
          exact e3 (hb.mp rfl)
      | false =>
        have hnp : ¬ properP (rs.map (·.1)) (cl x) := fun h => Bool.false_ne_true (hb.mpr h)
        repeat walk_at "W"
        refine ⟨_, h1, by rw [List.length_map]; exact small1000 (by omega), fun b u e => ?_, ls ++ [cl x], ?_, by rw [List.length_append]; simp; omega, ?_, fun l => ?_⟩
        · rw [upd_ne (ne_of_none e hA)]; exact s2 _ _ e
        · rw [upd_same, tx_app]; simp [tx, mk_cl]; rfl
        · refine List.nodup_append.mpr ⟨h3, by simp, fun a ha b hb2 e => ?_⟩
          rw [e, List.mem_singleton.mp hb2] at ha
          obtain ⟨⟨kv, e1, e2⟩, _⟩ := (h4 _).mp ha
          exact hnew kv e1 (by rw [e2, mk_cl])
        · rw [List.mem_append, h4, htk, List.mem_singleton]
          constructor
          · rintro (⟨⟨kv, e1, e2⟩, e3⟩ | rfl)
            · exact ⟨⟨kv, List.mem_append_left _ e1, e2⟩, e3⟩
            · exact ⟨⟨_, List.mem_append_right _ (List.mem_singleton.mpr rfl), by rw [mk_cl]⟩, hnp⟩
          · rintro ⟨⟨kv, e1, e2⟩, e3⟩
            rcases List.mem_append.mp e1 with z | z
            · exact .inl ⟨⟨kv, z, e2⟩, e3⟩
            · rw [List.mem_singleton.mp z] at e2
              have e4 : x = mkS l := Sum.inr.inj e2
              exact .inr (by rw [e4, cl_mk])
    · rintro G ⟨s2, ls, h1, h2, h3, h4⟩
      rw [List.take_length] at h4
      repeat walk_at "W"
      refine ⟨s2 _ _ hFd, ?_⟩
      have s3 : Same H1 (upd G d (.dK kvs)) := fun b u e => by
        by_cases z : b = d
        · rw [z] at e ⊢
          rw [upd_same, ← hkv, e]
        · rw [upd_ne z]; exact s2 _ _ (hF1 _ _ z e)
      have hA3 : (upd G d (.dK kvs)) A = some (.lst (tx ls)) := by rw [upd_ne hAd]; exact h1
      generalize upd G d (.dK kvs) = G3 at s3 hA3 ⊢
      have hmem : ∀ l, l ∈ ls ↔ (∃ p ∈ rs, cl p.1 = l) ∧ ¬ properP (rs.map (·.1)) l := fun l => by
        rw [h4]
        refine and_congr_left fun _ => ⟨fun ⟨kv, e1, e2⟩ => ?_, fun ⟨p0, e1, e2⟩ => ?_⟩
        · obtain ⟨p0, e3, e4⟩ := List.mem_map.mp (hkx (mkS l) ⟨kv, e1, e2⟩)
          exact ⟨p0, e3, by rw [e4, cl_mk]⟩
        · have e3 : (valV kvs (Sum.inr (mkS l))).isSome = true := (hmemK _).mpr (List.mem_map.mpr ⟨p0, e1, by rw [← e2, mk_cl]⟩)
          rw [← valV_any, List.any_eq_true] at e3
          obtain ⟨kv, e4, e5⟩ := e3
          exact ⟨kv, e4, by simpa using e5⟩
      have hl4 : ∀ l ∈ ls, l.length ≤ 4 := fun l hl => by
        obtain ⟨⟨p0, e1, e2⟩, _⟩ := (hmem l).mp hl
        rw [← e2, len_cl]; exact (hg p0 e1).1
      repeat walk_at "W"
      refine ⟨A, ls, rfl, SqL.of hA3, fun l hl => by have := hl4 l hl; omega, by omega, fun G4 t4 s4 ht40 ht4 => ?_⟩
      refine ⟨t4, rfl, ⟨_, SqT.of ht4⟩, fun A2 hA2 => ?_⟩
      have s14 := s3.trans s4
      have hal : (asc ls).length = ls.length := (asc_perm ls).length_eq
      refine Wp.lcIt (walk_tup (xs := tx (asc ls))) (fun i G => Same G4 G ∧ ∃ bs2 : List Addr, G A2 = some (.lst (bs2.map V.ref)) ∧ RulesAt G bs2 (leastR rs ((asc ls).take i))) ⟨Wp.same_upd hA2, [], upd_same, trivial⟩ (fun i G _ h => SqT.of (h.1 _ _ ht4)) ?_ ?_
      · rintro i x G5 G5' hi ⟨s5, bs2, g1, g2⟩ ⟨eG5, hx⟩
        rw [eG5]
        rw [List.getElem?_map] at hx
        obtain ⟨l, hl, rfl⟩ := Option.map_eq_some_iff.mp hx
        have hl2 := hl4 l (asc_mem.mp (List.mem_of_getElem? hl))
        have hil := (List.getElem?_eq_some_iff.mp hl).1
        have hbl2 := g2.len
        unfold leastR at hbl2
        rw [List.length_map, List.length_take] at hbl2
        repeat walk_at "W"
        refine ⟨d, rs, mkS l, rfl, hR.same (s14.trans s5), hg, by rw [len_mk]; omega, fun G6 s6 => ?_⟩
        rw [cl_mk]
        repeat walk_at "W"
        intro T hT
        have u1 := Wp.same_upd (o := .tup [.str (mkS l), .str (mkS (overP rs l))]) hT
        have g16 := u1 _ _ (s6 _ _ g1)
        refine ⟨_, g16, by rw [List.length_map]; exact small1000 (by omega), fun b u e => ?_, bs2 ++ [T], by rw [upd_same, List.map_append]; rfl, ?_⟩
        · rw [upd_ne (ne_of_none e hA2)]; exact u1 _ _ (s6 _ _ (s5 _ _ e))
        · have g26 : RulesAt (upd G6 T (.tup [.str (mkS l), .str (mkS (overP rs l))])) (bs2 ++ [T]) (leastR rs ((asc ls).take i) ++ [(mkS l, mkS (overP rs l))]) := rulesAt_app ((g2.same s6).same u1) upd_same
          have e6 : leastR rs ((asc ls).take (i + 1)) = leastR rs ((asc ls).take i) ++ [(mkS l, mkS (overP rs l))] := by
            unfold leastR
            rw [List.take_add_one, hl, List.map_append]; rfl
          rw [e6]
          exact rulesAt_keep (fun b xs e => by rw [upd_ne (ne_of e g16 (by intro z; cases z))]; exact e) g26
      · rintro G5 ⟨s5, bs2, g1, g2⟩
        rw [List.length_map, List.take_length] at g2
        repeat walk_at "W"
        refine Wp.tupL (SqL.of g1) fun t2 ht2 => ?_
        have u2 := Wp.same_upd (o := .tup (bs2.map V.ref)) ht2
        have s15 := (s1.trans s14).trans s5
        exact q _ t2 bs2 (asc ls) (s15.trans u2) (s15.free ht2) upd_same ⟨asc_sorted ls, (asc_perm ls).nodup_iff.mpr h3, fun l => by rw [asc_mem, hmem]⟩ (by omega) (g2.same u2)
end
end K57
set_option Elab.async false
set_option linter.all false
set_option maxRecDepth 100000
set_option maxHeartbeats 8000000
namespace K57
open PySem PySem.Spec PyProof.Rows L2 Bk
open Wp (Keep wo_lt wo_le wo_gt wo_ge wo_eq wo_ne wo_in wo_nin wo_add wo_mul op_shlB ws_any wc_int wc_isi u65)
abbrev s__law_products : Stmt := topS 59
abbrev N__law_products : List Str := ["_law_code", "_law_j", "_law_i", "_law_turns", "_law_rows", "_law_one", "_law_other"]
theorem sc__law_products : FnScope N__law_products ["_law_code"] (defScope s__law_products) := ⟨rfl, rfl, rfl, by decide +kernel, rfl, by decide +kernel, by decide +kernel⟩
local macro_rules | `(tactic| walk_at "W") => `(tactic| first
  | (with_reducible first
    | refine Wp.seq ?_ | refine Wp.asg ?_ | refine Wp.ret ?_ | refine Wp.retN ?_ | refine Wp.drop ?_ | refine Wp.nxt ?_ | refine Wp.ifs ?_ | refine Wp.gname ?_
    | refine Wp.op ?_ | refine Wp.un ?_ | refine Wp.tst ?_ | refine Wp.tb' ?_ | refine Wp.tnot ?_ | refine Wp.tand ?_ | refine Wp.tor ?_ | refine Wp.tandV ?_ | refine Wp.torV ?_ | refine Wp.tnotV ?_ | refine Wp.tif ?_ | refine Wp.tchain ?_
    | refine Wp.cb ?_ | refine Wp.call ?_ | refine Wp.cons ?_ | refine Wp.nil ?_ | refine Wp.gsub ?_ | refine Wp.cst ?_ | refine Wp.i0 ?_ | refine Wp.int1 ?_ | refine Wp.eb ?_ | refine Wp.ei ?_
    | refine Wp.gnil ?_ | refine Wp.gcons ?_ | refine Wp.mko ?_ | refine Wp.bm ?_ | refine Wp.ienum ?_ | refine Wp.tru ?_ | refine Wp.u1 ?_ | refine Wp.for_ ?_ | refine Wp.lc ?_ | refine Wp.istr ?_ | refine Wp.ilist ?_ | refine Wp.itup ?_ | refine Wp.irng1 ?_ | refine Wp.irng2 ?_ | refine Wp.yes ?_ | refine Wp.es ?_ | refine Wp.er ?_ | refine Wp.sl ?_ | refine Wp.nopart ?_ | refine Wp.part ?_ | refine Wp.lst ?_ | refine Wp.tup ?_
    | refine Wp.din ?_ | refine Wp.dnotin ?_ | refine Wp.dget ?_ | refine Wp.dget2 ?_ | refine Wp.dput ?_ | refine Wp.dnewK ?_ | refine Wp.dnewT ?_ | refine Wp.bm0 ?_ | refine Wp.m1 ?_ | refine Wp.exs ?_ | refine Wp.is0 ?_ | refine Wp.isnot0 ?_ | refine Wp.fld ?_ | refine Wp.sfld ?_
    | refine Wp.par ?_ | refine Wp.parV ?_ | refine Wp.brk ?_ | refine Wp.aug ?_ | refine Wp.ipaI ?_ | refine Wp.ipsI ?_ | refine Bk.ienumS ?_ | refine Wp.make_ ?_ | refine Wp.itnn ?_ | refine Wp.ltI ?_ | refine Wp.leI ?_ | refine Wp.leS ?_ | refine Wp.inSg ?_ | refine Wp.gtI ?_ | refine Wp.geI ?_ | refine Wp.eqI ?_ | refine Wp.neI ?_ | refine Wp.addI ?_ | refine Wp.ltS ?_ | refine Wp.eqS ?_ | refine Wp.neS ?_
    | refine Bk.ckw ?_ | refine Bk.callS ?_ | refine Bk.clAs ?_ | refine Bk.notL ?_ | refine Bk.revT ?_)
  | ((with_reducible refine' Wp.var ?hv ?_); (case hv => exact rfl))
  | ((with_reducible refine' Wp.ixl ?hs ?he ?_); (case hs => first | exact SqL.of upd_same | exact SqL.of (by assumption) | assumption); (case he => exact rfl))
  | ((with_reducible refine' Wp.setl ?hs ?he ?_); (case hs => first | exact upd_same | assumption); (case he => exact rfl))
  | ((with_reducible refine' Wp.modP ?hs ?_); (case hs => first | decide | omega))
  | ((with_reducible refine' Wp.divN ?hs ?ht ?_); (case hs => first | decide | omega); (case ht => first | decide | omega))
  | ((with_reducible refine' Wp.mulM ?hs ?ht ?_); (case hs => decide); (case ht => decide))
  | ((with_reducible refine' Wp.mulL ?hs ?_); (case hs => omega))
  | ((with_reducible refine' Wp.mulR ?hs ?_); (case hs => omega))
  | ((with_reducible refine' Wp.powS ?hs ?_); (case hs => decide))
  | ((with_reducible refine' Wp.shr ?hs ?_); (case hs => decide))
  | ((with_reducible refine' Wp.szl ?hs ?_); (case hs => first | decide | (simp; done)))
  | ((with_reducible refine' Wp.lenL ?hs ?_); (case hs => first | exact SqL.of upd_same | exact SqL.of (by assumption) | assumption))
  | ((with_reducible refine' Wp.lenT ?hs ?_); (case hs => first | exact SqT.of upd_same | exact SqT.of (by assumption) | assumption))
  | ((with_reducible refine' Wp.iteC ?hs ?_); (case hs => exact rfl)) | ((with_reducible refine' Wp.iteD ?hs ?_); (case hs => exact Bool.false_ne_true))
  | ((with_reducible refine' Wp.wp ?hs ?_); (case hs => rfl))
  | (with_reducible first | refine Wp.abs ?_ | refine Wp.max2 ?_ | refine Wp.min2 ?_)
  | ((with_reducible refine' Wp.sll ?hs ?_); (case hs => first | exact SqL.of upd_same | exact SqL.of (by assumption) | assumption)))
local macro_rules | `(tactic| walk_at "KQ") => `(tactic| first
  | exact Wp.kq "int" rfl (by decide +kernel) | exact Wp.kq "bool" rfl (by decide +kernel) | exact Wp.kq "str" rfl (by decide +kernel) | exact Wp.kq "list" rfl (by decide +kernel)
  | exact Wp.kq "tuple" rfl (by decide +kernel) | exact Wp.kq "NoneType" rfl (by decide +kernel) | exact Wp.kq "dict" rfl (by decide +kernel))

section
variable {P : Program} {w : World} {K : PySem.W.Frag} {mg : Str → Option Value} {base : Heap}
/-- the table of a small group -/
def spProd : Sp := fun vs H Q _ => ∃ c : Nat, vs = [.int c] ∧ c ∈ codes ∧ ∀ H' M bs, Same H H' → H M = none → H' M = some (.lst (bs.map V.ref)) → RowsO .lst H' bs (tblN c) → Q (.ref M) H'
theorem ok_prod (B : Wp.Blt mg) {f : Addr} {fd : FuncData} (F : Fun K "_law_products" "_law_products" s__law_products f fd) : FnOk P w K mg base CX0 1 f fd ["_law_code"] spProd := by
  refine F.ok sc__law_products (fun vs H Q E h => ?_) (fun cdv A outer s H vs Q E hr h => ?_)
  · obtain ⟨c, rfl, _⟩ := h
    rfl
  · obtain ⟨c, rfl, hc, q⟩ := h
    refine ⟨_, (pss_cons (ps_if (pt_cmpR wo_lt (pv 0) pe_int (nomark _)) (pss_one (ps_ret (pe_lc (own := [("_law_i", 2)]) (g := gName 2) (by rfl) sc__law_products.nd (pi_range1 (by rfl) B.range (pa_cons (pv 0) pa_nil)) (blkOk_by (own := [("_law_i", 2)]) (N := N__law_products) (sc := defScope s__law_products) (by decide +kernel)) (fun _ _ _ _ _ => pg_name (i := 2) sc__law_products.nd rfl (by first | exact .inl rfl | exact .inr rfl)) (fun _ _ _ _ _ => pts_nil) (fun _ _ _ _ _ => (pe_lc (own := [("_law_j", 1)]) (g := gName 1) (by rfl) sc__law_products.nd (pi_range1 (by rfl) B.range (pa_cons (pv 0) pa_nil)) (blkOk_by (own := [("_law_j", 1)]) (by rfl)) (fun _ _ _ _ _ => pg_name (i := 1) sc__law_products.nd rfl (by first | exact .inl rfl | exact .inr rfl)) (fun _ _ _ _ _ => pts_nil) (fun _ _ _ _ _ => (pe_op op_modN (pe_callTy wc_int (by rfl) B.int (by decide +kernel) (pa_cons (pe_op (wo_add (K := K)) (pv 2) (pv 1)) pa_nil)) (pv 0)))))))) pss_nil)
  (pss_cons (ps_if (pt_cmpR (wo_eq (K := K) hr.units) (pv 0) pe_int (nomark _)) (pss_one (ps_ret (pe_lst (pa_cons (pe_lst (pa_cons pe_int (pa_cons pe_int (pa_cons pe_int (pa_cons pe_int pa_nil))))) (pa_cons (pe_lst (pa_cons pe_int (pa_cons pe_int (pa_cons pe_int (pa_cons pe_int pa_nil))))) (pa_cons (pe_lst (pa_cons pe_int (pa_cons pe_int (pa_cons pe_int (pa_cons pe_int pa_nil))))) (pa_cons (pe_lst (pa_cons pe_int (pa_cons pe_int (pa_cons pe_int (pa_cons pe_int pa_nil))))) pa_nil))))))) pss_nil)
  (pss_cons (ps_set (i := 3) sc__law_products.nd rfl (by first | exact .inl rfl | exact .inr rfl) (pe_lst (pa_cons (pe_tup (pa_cons pe_int (pa_cons pe_int (pa_cons pe_int pa_nil)))) (pa_cons (pe_tup (pa_cons pe_int (pa_cons pe_int (pa_cons pe_int pa_nil)))) (pa_cons (pe_tup (pa_cons pe_int (pa_cons pe_int (pa_cons pe_int pa_nil)))) (pa_cons (pe_tup (pa_cons pe_int (pa_cons pe_int (pa_cons pe_int pa_nil)))) (pa_cons (pe_tup (pa_cons pe_int (pa_cons pe_int (pa_cons pe_int pa_nil)))) (pa_cons (pe_tup (pa_cons pe_int (pa_cons pe_int (pa_cons pe_int pa_nil)))) pa_nil))))))))
  (pss_cons (ps_set (i := 4) sc__law_products.nd rfl (by first | exact .inl rfl | exact .inr rfl) (pe_lst pa_nil))
  (pss_cons (ps_for PassesOwn.never rfl (Wp.wi_list (K := K) (pv 3)) (pg_name (i := 5) sc__law_products.nd rfl (by first | exact .inl rfl | exact .inr rfl)) (pss_one (ps_expr (Wp.wbm (K := K) (pe_bm PySem.F.plainAttrs_list PySem.F.slot_list_append PySem.F.type_list_append mt_append (pv 4) (pa_cons (pe_lc (own := [("_law_other", 6)]) (g := gName 6) (by rfl) sc__law_products.nd (Wp.wi_list (K := K) (pv 3)) (blkOk_by (own := [("_law_other", 6)]) (N := N__law_products) (sc := defScope s__law_products) (by decide +kernel)) (fun _ _ _ _ _ => pg_name (i := 6) sc__law_products.nd rfl (Or.inl rfl)) (fun _ _ _ _ _ => pts_nil) (fun _ _ _ _ _ => (Wp.wbm (K := K) (pe_bm PySem.F.plainAttrs_list PySem.F.slot_list_index PySem.F.type_list_index (Bk.wm_indexD (K := K) (u65 hr)) (pv 3) (pa_cons (pe_tup (pa_cons (pe_ix (Wp.wx_seq (K := K)) (pv 6) (pe_ix (Wp.wx_seq (K := K)) (pv 5) pe_int (fun _ _ => rfl)) (fun _ _ => rfl)) (pa_cons (pe_ix (Wp.wx_seq (K := K)) (pv 6) (pe_ix (Wp.wx_seq (K := K)) (pv 5) pe_int (fun _ _ => rfl)) (fun _ _ => rfl)) (pa_cons (pe_ix (Wp.wx_seq (K := K)) (pv 6) (pe_ix (Wp.wx_seq (K := K)) (pv 5) pe_int (fun _ _ => rfl)) (fun _ _ => rfl)) pa_nil)))) pa_nil))))) pa_nil))))))
  (pss_one (ps_ret (pv 4)))))))), ?_⟩
    refine Wp.st (σ' := [some (.int (c : Nat)), none, none, none, none, none, none]) rfl ?_
    repeat walk_at "W"
    have hc8 : 1 ≤ c ∧ c ≤ 8 := by
      have h : ∀ c ∈ codes, 1 ≤ c ∧ c ≤ 8 := by decide
      exact h c hc
    have hbig : (1000000 : Nat) < sizeLine := by decide
    refine Wp.itd (fun e0 => ?_) (fun e0 => ?_)
    · have et : tblN c = cyc c := by unfold tblN; rw [if_pos (by omega)]
      repeat walk_at "W"
      refine ⟨(c : Nat), rfl, by omega, by omega, fun A hA => ?_⟩
      refine Wp.lcIt walk_range (fun i G => Same H G ∧ ∃ bs : List Addr, G A = some (.lst (bs.map V.ref)) ∧ RowsO .lst G bs ((cyc c).take i) ∧ ∀ b ∈ bs, b ≠ A) ⟨Wp.same_upd hA, [], upd_same, trivial, fun _ h => nomatch h⟩ (fun _ _ _ _ => trivial) ?_ ?_
      · rintro i x G G' hi ⟨s1, bs, g1, g2, g3⟩ ⟨eG, rfl⟩
        rw [eG]
        have hic : i < c := by omega
        have hbl := g2.len
        rw [List.length_take] at hbl
        repeat walk_at "W"
        refine ⟨(c : Nat), rfl, by omega, by omega, fun L hL => ?_⟩
        have hLA : L ≠ A := fun e => by rw [e, g1] at hL; cases hL
        refine Wp.lcIt walk_range (fun j G2 => Same G G2 ∧ G2 L = some (.lst (((List.range j).map fun j => (i + j) % c).map fun n => V.int (n : Nat)))) ⟨Wp.same_upd hL, upd_same⟩ (fun _ _ _ _ => trivial) ?_ ?_
        · rintro j x G2 G2' hj ⟨s2, hL2⟩ ⟨eG2, rfl⟩
          rw [eG2]
          have hjc : j < c := by omega
          repeat walk_at "W"
          refine ⟨_, hL2, by rw [List.length_map, List.length_map, List.length_range]; rw [sizeLine_eq]; omega, fun b o e => ?_, ?_⟩
          · rw [upd_ne (ne_of_none e hL)]
            exact s2 _ _ e
          · have e1 : (0 + (i : Int) + (0 + (j : Int))).fmod c = ((i + j) % c : Nat) := by
              have e0 : 0 + (i : Int) + (0 + (j : Int)) = ((i + j : Nat) : Int) := by omega
              rw [e0, Int.fmod_eq_emod_of_nonneg _ (by omega)]
              exact (Int.natCast_emod _ _).symm
            rw [e1, List.range_succ, List.map_append, List.map_append]
            exact upd_same
        · rintro G2 ⟨s2, hL2⟩
          rw [Int.toNat_natCast] at hL2
          have hA2 : G2 A = some (.lst (bs.map V.ref)) := s2 _ _ g1
          refine ⟨_, hA2, by rw [List.length_map, hbl]; rw [sizeLine_eq]; omega, fun b o e => ?_, bs ++ [L], ?_, ?_, fun b hb => ?_⟩
          · rw [upd_ne (ne_of_none e hA)]
            exact s2 _ _ (s1 _ _ e)
          · rw [List.map_append]
            exact upd_same
          · have e2 : (cyc c).take (i + 1) = (cyc c).take i ++ [(List.range c).map fun j => (i + j) % c] := by
              rw [List.take_add_one]
              unfold cyc
              rw [List.getElem?_map, List.getElem?_range hic]
              rfl
            rw [e2]
            exact ((g2.same s2).keep (Wp.Keep.upd A G2 _) g3).app (RowsO.one (by rw [upd_ne hLA]; exact hL2))
          · rcases List.mem_append.mp hb with z | z
            · exact g3 b z
            · rw [List.mem_singleton.mp z]; exact hLA
      · rintro G ⟨s1, bs, g1, g2, g3⟩
        rw [Int.toNat_natCast, List.take_of_length_le (by unfold cyc; simp)] at g2
        rw [← et] at g2
        exact q G A bs s1 hA g1 g2
    · repeat walk_at "W"
      refine Wp.itd (fun e1 => ?_) (fun e1 => ?_)
      · have ec : c = 7 := by omega
        subst ec
        exact Wp.ret (layM_l (rows := [[0, 1, 2, 3], [1, 0, 3, 2], [2, 3, 0, 1], [3, 2, 1, 0]]) (layN_cons (layO_l (fun _ _ h => h) (by decide)) (layN_cons (layO_l (fun _ _ h => h) (by decide)) (layN_cons (layO_l (fun _ _ h => h) (by decide)) (layN_cons (layO_l (fun _ _ h => h) (by decide)) layN_nil)))) (by decide) _ _ fun M bs H' s1 hM h1 h2 _ => q H' M bs s1 hM h1 h2)
      · have ec : c = 8 := by omega
        subst ec
        refine Wp.nxt ?_
        with_reducible refine Wp.seq ?_
        refine Wp.asg ?_
        refine layM_l (rows := turns3) (layN_cons (layO_t (fun _ _ h => h) (by decide)) (layN_cons (layO_t (fun _ _ h => h) (by decide)) (layN_cons (layO_t (fun _ _ h => h) (by decide)) (layN_cons (layO_t (fun _ _ h => h) (by decide)) (layN_cons (layO_t (fun _ _ h => h) (by decide)) (layN_cons (layO_t (fun _ _ h => h) (by decide)) layN_nil)))))) (by decide) _ _ fun T ts H1 s1 hT h1 h2 hne => ?_
        repeat walk_at "W"
        intro M hM
        have sM := Wp.same_upd (o := .lst []) hM
        have hTM : T ≠ M := fun e => by rw [e, hM] at h1; cases h1
        have tl := h2.len
        have ct : ∀ one ∈ turns3, ∀ k < 3, one.getD k 0 < 3 ∧ one[k]? = some (one.getD k 0) := by decide
        have cc : ∀ one ∈ turns3, ∀ o ∈ turns3, [o.getD (one.getD 0 0) 0, o.getD (one.getD 1 0) 0, o.getD (one.getD 2 0) 0] ∈ turns3 := by decide
        repeat walk_at "W"
        refine ⟨⟨_, SqL.of (sM _ _ h1)⟩, Wp.forIt (walk_list (xs := ts.map V.ref)) (fun i σ1 G => ∃ bs x5 x6, σ1 = [some (.int (8 : Nat)), none, none, some (.ref T), some (.ref M), x5, x6] ∧ Same H1 G ∧ G M = some (.lst (bs.map V.ref)) ∧ RowsO .lst G bs (ex3.take i) ∧ ∀ b ∈ bs, b ≠ M) ⟨[], _, _, rfl, sM, upd_same, trivial, fun _ h => nomatch h⟩ (fun i σ1 G _ ⟨_, _, _, _, h, _⟩ => SqL.of (h _ _ h1)) ?_ ?_⟩
        · rintro i x σ1 G G' hi ⟨bs, x5, x6, rfl, s2, g1, g2, g3⟩ ⟨rfl, hx⟩
          rw [List.getElem?_map] at hx
          obtain ⟨b, hb, rfl⟩ := Option.map_eq_some_iff.mp hx
          obtain ⟨one, h3, h4⟩ := h2.at hb
          have hone := List.mem_of_getElem? h3
          have hbl := g2.len
          rw [List.length_map, tl] at hi
          rw [List.length_take] at hbl
          have hi6 : i < 6 := hi
          repeat walk_at "W"
          refine Wp.tyl g1 ?_
          repeat walk_at "W"
          refine ⟨⟨_, SqL.of (s2 _ _ h1)⟩, fun A hA => ?_⟩
          have hTA : T ≠ A := fun e => by
            have := s2 _ _ h1
            rw [e, hA] at this; cases this
          have hMA : M ≠ A := fun e => by rw [e, hA] at g1; cases g1
          refine Wp.lcIt (walk_list (xs := ts.map V.ref)) (fun j G2 => Same G' G2 ∧ G2 A = some (.lst (nvs ((turns3.map fun o => turns3.idxOf [o.getD (one.getD 0 0) 0, o.getD (one.getD 1 0) 0, o.getD (one.getD 2 0) 0]).take j)))) ⟨Wp.same_upd hA, upd_same⟩ (fun j G2 _ h => SqL.of (h.1 _ _ (s2 _ _ h1))) ?_ ?_
          · rintro j x G2 G3 hj ⟨s3, hA2⟩ ⟨rfl, hx⟩
            rw [List.getElem?_map] at hx
            obtain ⟨b2, hb2, rfl⟩ := Option.map_eq_some_iff.mp hx
            obtain ⟨o, h5, h6⟩ := h2.at hb2
            have ho := List.mem_of_getElem? h5
            rw [List.length_map, tl] at hj
            have hj6 : j < 6 := hj
            have s13 : Same H1 G3 := s2.trans s3
            repeat walk_at "W"
            refine Wp.tyl (s13 _ _ h1) ?_
            repeat walk_at "W"
            refine Wp.ixt (SqT.of (s13 _ _ h4)) (nv_at (i := 0) (ct one hone 0 (by omega)).2) ?_
            refine Wp.ixt (SqT.of (s13 _ _ h6)) (nv_at (ct o ho _ (ct one hone 0 (by omega)).1).2) ?_
            repeat walk_at "W"
            refine Wp.ixt (SqT.of (s13 _ _ h4)) (nv_at (i := 1) (ct one hone 1 (by omega)).2) ?_
            refine Wp.ixt (SqT.of (s13 _ _ h6)) (nv_at (ct o ho _ (ct one hone 1 (by omega)).1).2) ?_
            repeat walk_at "W"
            refine Wp.ixt (SqT.of (s13 _ _ h4)) (nv_at (i := 2) (ct one hone 2 (by omega)).2) ?_
            refine Wp.ixt (SqT.of (s13 _ _ h6)) (nv_at (ct o ho _ (ct one hone 2 (by omega)).1).2) ?_
            repeat walk_at "W"
            intro p hp
            have sp := Wp.same_upd (o := .tup [.int ((o.getD (one.getD 0 0) 0 : Nat) : Int), .int ((o.getD (one.getD 1 0) 0 : Nat) : Int), .int ((o.getD (one.getD 2 0) 0 : Nat) : Int)]) hp
            repeat walk_at "W"
            have hin := cc one hone o ho
            refine ⟨T, .ref p, _, _, _, _, rfl, rfl, .lst (SqL.of (sp _ _ (s13 _ _ h1))) (RowsO.data (h2.same (s13.trans sp))), .tup (SqT.of upd_same) (RowsO.data.nvs_data [o.getD (one.getD 0 0) 0, o.getD (one.getD 1 0) 0, o.getD (one.getD 2 0) 0]), rows_shaped _, (tD_shaped _).1, (rows_idx hin).1, by rw [tD_eqv]; simp, (rows_idx hin).2, ?_⟩
            refine ⟨_, sp _ _ hA2, by rw [List.length_map, List.length_take]; rw [sizeLine_eq]; omega, fun b o e => ?_, ?_⟩
            · have := s3 _ _ e
              rw [upd_ne (fun z => by rw [z, hA] at e; cases e)]
              exact sp _ _ this
            · have e2 : (turns3.map fun o => turns3.idxOf [o.getD (one.getD 0 0) 0, o.getD (one.getD 1 0) 0, o.getD (one.getD 2 0) 0])[j]? = some (turns3.idxOf [o.getD (one.getD 0 0) 0, o.getD (one.getD 1 0) 0, o.getD (one.getD 2 0) 0]) := by rw [List.getElem?_map, h5]; rfl
              rw [List.take_add_one, e2, Option.toList_some]
              unfold nvs
              rw [List.map_append]
              exact upd_same
          · rintro G2 ⟨s3, hA2⟩
            repeat walk_at "W"
            have hAl : G2 M = some (.lst (bs.map V.ref)) := s3 _ _ g1
            rw [List.length_map, tl, List.take_of_length_le (by rw [List.length_map]; exact Nat.le_refl _)] at hA2
            refine Wp.app hAl (by rw [List.length_map, hbl]; rw [sizeLine_eq]; omega) ?_
            repeat walk_at "W"
            refine ⟨bs ++ [A], _, _, rfl, fun b o e => ?_, by rw [List.map_append]; exact upd_same, ?_, fun b hb => ?_⟩
            · have e3 := s2 _ _ e
              rw [upd_ne (fun z => by rw [z, hM] at e; cases e)]
              exact s3 _ _ e3
            · have e4 : ex3[i]? = some (turns3.map fun o => turns3.idxOf [o.getD (one.getD 0 0) 0, o.getD (one.getD 1 0) 0, o.getD (one.getD 2 0) 0]) := by
                unfold ex3
                rw [List.getElem?_map, h3]; rfl
              rw [List.take_add_one, e4]
              exact ((g2.same s3).keep (Wp.Keep.upd M G2 _) g3).app (RowsO.one (by rw [upd_ne (Ne.symm hMA)]; exact hA2))
            · rcases List.mem_append.mp hb with z | z
              · exact g3 b z
              · rw [List.mem_singleton.mp z]; exact Ne.symm hMA
        · rintro σ1 G ⟨bs, x5, x6, rfl, s2, g1, g2, g3⟩
          rw [List.length_map, tl, List.take_of_length_le (by decide)] at g2
          repeat walk_at "W"
          exact q G M bs (s1.trans s2) (none_of_same s1 hM) g1 g2
end
end K57
set_option Elab.async false
set_option linter.all false
set_option maxRecDepth 100000
set_option maxHeartbeats 8000000
namespace K57
open PySem PySem.Spec PyProof.Rows L2 Bk
open Wp (Keep wo_lt wo_le wo_gt wo_ge wo_eq wo_ne wo_in wo_nin wo_add wo_mul op_shlB ws_any wc_int wc_isi u65)
abbrev s__law_arrows : Stmt := topS 60
abbrev N__law_arrows : List Str := ["_law_shapes", "_law_told", "_law_k", "_law_code", "_law_many", "_law_i", "_law_j", "_law_g"]
theorem sc__law_arrows : FnScope N__law_arrows ["_law_shapes"] (defScope s__law_arrows) := ⟨rfl, rfl, rfl, by decide +kernel, rfl, by decide +kernel, by decide +kernel⟩
local macro_rules | `(tactic| walk_at "W") => `(tactic| first
  | (with_reducible first
    | refine Wp.seq ?_ | refine Wp.asg ?_ | refine Wp.ret ?_ | refine Wp.retN ?_ | refine Wp.drop ?_ | refine Wp.nxt ?_ | refine Wp.ifs ?_ | refine Wp.gname ?_
    | refine Wp.op ?_ | refine Wp.un ?_ | refine Wp.tst ?_ | refine Wp.tb' ?_ | refine Wp.tnot ?_ | refine Wp.tand ?_ | refine Wp.tor ?_ | refine Wp.tandV ?_ | refine Wp.torV ?_ | refine Wp.tnotV ?_ | refine Wp.tif ?_ | refine Wp.tchain ?_
    | refine Wp.cb ?_ | refine Wp.call ?_ | refine Wp.cons ?_ | refine Wp.nil ?_ | refine Wp.gsub ?_ | refine Wp.cst ?_ | refine Wp.i0 ?_ | refine Wp.int1 ?_ | refine Wp.eb ?_ | refine Wp.ei ?_
    | refine Wp.gnil ?_ | refine Wp.gcons ?_ | refine Wp.mko ?_ | refine Wp.bm ?_ | refine Wp.ienum ?_ | refine Wp.tru ?_ | refine Wp.u1 ?_ | refine Wp.for_ ?_ | refine Wp.lc ?_ | refine Wp.istr ?_ | refine Wp.ilist ?_ | refine Wp.itup ?_ | refine Wp.irng1 ?_ | refine Wp.irng2 ?_ | refine Wp.yes ?_ | refine Wp.es ?_ | refine Wp.er ?_ | refine Wp.sl ?_ | refine Wp.nopart ?_ | refine Wp.part ?_ | refine Wp.lst ?_ | refine Wp.tup ?_
    | refine Wp.din ?_ | refine Wp.dnotin ?_ | refine Wp.dget ?_ | refine Wp.dget2 ?_ | refine Wp.dput ?_ | refine Wp.dnewK ?_ | refine Wp.dnewT ?_ | refine Wp.bm0 ?_ | refine Wp.m1 ?_ | refine Wp.exs ?_ | refine Wp.is0 ?_ | refine Wp.isnot0 ?_ | refine Wp.fld ?_ | refine Wp.sfld ?_
    | refine Wp.par ?_ | refine Wp.parV ?_ | refine Wp.brk ?_ | refine Wp.aug ?_ | refine Wp.ipaI ?_ | refine Wp.ipsI ?_ | refine Bk.ienumS ?_ | refine Wp.make_ ?_ | refine Wp.itnn ?_ | refine Wp.ltI ?_ | refine Wp.leI ?_ | refine Wp.leS ?_ | refine Wp.inSg ?_ | refine Wp.gtI ?_ | refine Wp.geI ?_ | refine Wp.eqI ?_ | refine Wp.neI ?_ | refine Wp.addI ?_ | refine Wp.ltS ?_ | refine Wp.eqS ?_ | refine Wp.neS ?_)
  | ((with_reducible refine' Wp.var ?hv ?_); (case hv => exact rfl))
  | ((with_reducible refine' Wp.ixl ?hs ?he ?_); (case hs => first | exact SqL.of upd_same | exact SqL.of (by assumption) | assumption); (case he => exact rfl))
  | ((with_reducible refine' Wp.setl ?hs ?he ?_); (case hs => first | exact upd_same | assumption); (case he => exact rfl))
  | ((with_reducible refine' Wp.modP ?hs ?_); (case hs => first | decide | omega))
  | ((with_reducible refine' Wp.divN ?hs ?ht ?_); (case hs => first | decide | omega); (case ht => first | decide | omega))
  | ((with_reducible refine' Wp.mulM ?hs ?ht ?_); (case hs => decide); (case ht => decide))
  | ((with_reducible refine' Wp.mulL ?hs ?_); (case hs => omega))
  | ((with_reducible refine' Wp.mulR ?hs ?_); (case hs => omega))
  | ((with_reducible refine' Wp.powS ?hs ?_); (case hs => decide))
  | ((with_reducible refine' Wp.shr ?hs ?_); (case hs => decide))
  | ((with_reducible refine' Wp.szl ?hs ?_); (case hs => first | decide | (simp; done)))
  | ((with_reducible refine' Wp.lenL ?hs ?_); (case hs => first | exact SqL.of upd_same | exact SqL.of (by assumption) | assumption))
  | ((with_reducible refine' Wp.lenT ?hs ?_); (case hs => first | exact SqT.of upd_same | exact SqT.of (by assumption) | assumption))
  | ((with_reducible refine' Wp.iteC ?hs ?_); (case hs => exact rfl)) | ((with_reducible refine' Wp.iteD ?hs ?_); (case hs => exact Bool.false_ne_true))
  | ((with_reducible refine' Wp.wp ?hs ?_); (case hs => rfl))
  | (with_reducible first | refine Wp.abs ?_ | refine Wp.max2 ?_ | refine Wp.min2 ?_)
  | ((with_reducible refine' Wp.sll ?hs ?_); (case hs => first | exact SqL.of upd_same | exact SqL.of (by assumption) | assumption)))
local macro_rules | `(tactic| walk_at "KQ") => `(tactic| first
  | exact Wp.kq "int" rfl (by decide +kernel) | exact Wp.kq "bool" rfl (by decide +kernel) | exact Wp.kq "str" rfl (by decide +kernel) | exact Wp.kq "list" rfl (by decide +kernel)
  | exact Wp.kq "tuple" rfl (by decide +kernel) | exact Wp.kq "NoneType" rfl (by decide +kernel) | exact Wp.kq "dict" rfl (by decide +kernel))

section
variable {P : Program} {w : World} {K : PySem.W.Frag} {mg : Str → Option Value} {base : Heap}
/-- all arrows of some parts -/
def spArws : Sp := fun vs H Q _ => ∃ (L : Addr) (sh : List (Nat × Nat)), vs = [.ref L] ∧ Lrows H L (sh.map shR) ∧ ShOk sh ∧ sh.length ≤ 5 ∧ ∀ H' M, Same H H' → H M = none → Lrows H' M ((arwL sh).map arR) → Q (.ref M) H'
theorem ok_arws (B : Wp.Blt mg) {f fP : Addr} {fd fdP : FuncData} (F : Fun K "_law_arrows" "_law_arrows" s__law_arrows f fd)
    (D__law_products : Wp.Dh K mg "_law_products" fP fdP ["_law_code"]) (G__law_products : FnOk P w K mg base CX0 1 fP fdP ["_law_code"] spProd) : FnOk P w K mg base CX0 2 f fd ["_law_shapes"] spArws := by
  refine F.ok sc__law_arrows (fun vs H Q E h => ?_) (fun cdv A outer s H vs Q E hr h => ?_)
  · obtain ⟨L, sh, rfl, _⟩ := h
    rfl
  · obtain ⟨L, sh, rfl, ⟨bs, hL, hbs⟩, ok, hl, q⟩ := h
    refine ⟨_, (pss_cons (ps_set (i := 1) sc__law_arrows.nd rfl (by first | exact .inl rfl | exact .inr rfl) (pe_lst pa_nil))
  (pss_cons (ps_for PassesOwn.never rfl (pi_range1 (by rfl) B.range (pa_cons (pe_callB (Wp.wc_len (K := K)) (by rfl) B.len (by decide +kernel) (pa_cons (pv 0) pa_nil)) pa_nil)) (pg_name (i := 2) sc__law_arrows.nd rfl (by first | exact .inl rfl | exact .inr rfl)) (pss_cons (ps_asg (pe_ix (Wp.wx_seq (K := K)) (pv 0) (pv 2) (fun _ _ => rfl)) (Wp.wg_tup (K := K) (n := 2) rfl (pgs_cons (pg_name (i := 3) sc__law_arrows.nd rfl (by first | exact .inl rfl | exact .inr rfl)) (pgs_cons (pg_name (i := 4) sc__law_arrows.nd rfl (by first | exact .inl rfl | exact .inr rfl)) pgs_nil))))
  (pss_one (ps_for PassesOwn.never rfl (pi_range1 (by rfl) B.range (pa_cons (pv 4) pa_nil)) (pg_name (i := 5) sc__law_arrows.nd rfl (by first | exact .inl rfl | exact .inr rfl)) (pss_one (ps_for PassesOwn.never rfl (pi_range1 (by rfl) B.range (pa_cons (pv 4) pa_nil)) (pg_name (i := 6) sc__law_arrows.nd rfl (by first | exact .inl rfl | exact .inr rfl)) (pss_one (ps_for PassesOwn.never rfl (pi_range1 (by rfl) B.range (pa_cons (pe_callB (Wp.wc_len (K := K)) (by rfl) B.len (by decide +kernel) (pa_cons (pe_call G__law_products (hr.mono (by decide)) (by rfl) D__law_products.g D__law_products.k D__law_products.b .nil pass0 (pa_cons (pv 3) pa_nil)) pa_nil)) pa_nil)) (pg_name (i := 7) sc__law_arrows.nd rfl (by first | exact .inl rfl | exact .inr rfl)) (pss_one (ps_if (PW.pt (pw_or (pt_cmpR (wo_ne (K := K) hr.units) (pv 5) (pv 6) (nomark _)) (pw_or1 (pt_cmpR (wo_ne (K := K) hr.units) (pv 7) pe_int (nomark _))))) (pss_one (ps_expr (Wp.wbm (K := K) (pe_bm PySem.F.plainAttrs_list PySem.F.slot_list_append PySem.F.type_list_append mt_append (pv 1) (pa_cons (pe_tup (pa_cons (pv 2) (pa_cons (pv 5) (pa_cons (pv 7) (pa_cons (pv 6) pa_nil))))) pa_nil))))) pss_nil))))))))))
  (pss_one (ps_ret (pv 1))))), ?_⟩
    refine Wp.st (σ' := [some (.ref L), none, none, none, none, none, none, none]) rfl ?_
    have hbl := hbs.len
    rw [List.length_map] at hbl
    repeat walk_at "W"
    intro M hM
    have sM := Wp.same_upd (o := .lst []) hM
    repeat walk_at "W"
    refine Wp.lenL (SqL.of (sM _ _ hL)) ?_
    repeat walk_at "W"
    refine ⟨((bs.map V.ref).length : Nat), rfl, by omega, by rw [List.length_map]; omega, ?_⟩
    refine Wp.forIt walk_range (fun k σ1 G => ∃ x2 x3 x4 x5 x6 x7, σ1 = [some (.ref L), some (.ref M), x2, x3, x4, x5, x6, x7] ∧ Same H G ∧ Lrows G M ((arwTo sh k).map arR)) ⟨_, _, _, _, _, _, rfl, sM, Lrows.nil⟩ (fun _ _ _ _ _ => trivial) ?_ ?_
    · rintro k x σ1 G G' hk ⟨x2, x3, x4, x5, x6, x7, rfl, s1, hT⟩ ⟨rfl, rfl⟩
      rw [Int.toNat_natCast, List.length_map, hbl] at hk
      have e1 : sh[k]? = some sh[k] := List.getElem?_eq_getElem hk
      obtain ⟨b, hb, hbt⟩ := (hbs.same s1).get (i := k) (r := shR sh[k]) (by rw [List.getElem?_map, e1]; rfl)
      obtain ⟨hc, hm⟩ := ok _ (List.mem_of_getElem? e1)
      have ho := ord_le _ hc
      have hal := arwTo_len ok (n := k) (by omega)
      simp only [Int.zero_add]
      generalize hsk : sh[k] = ck at *
      obtain ⟨c, m⟩ := ck
      simp only at hc hm ho
      repeat walk_at "W"
      refine Wp.ixl (v := .ref b) (SqL.of (s1 _ _ hL)) (atI_nat (j := k) (by rw [List.getElem?_map, hb]; rfl)) ?_
      repeat walk_at "W"
      refine Wp.gt (xs := [V.int (c : Nat), V.int (m : Nat)]) (SqT.of hbt) rfl ?_
      repeat walk_at "W"
      refine ⟨(m : Nat), rfl, by omega, by omega, ?_⟩
      refine Wp.forIt walk_range (fun i σ1 G => ∃ x5 x6 x7, σ1 = [some (.ref L), some (.ref M), some (.int (k : Nat)), some (.int (c : Nat)), some (.int (m : Nat)), x5, x6, x7] ∧ Same H G ∧ Lrows G M ((arwTo sh k ++ iL k c m i).map arR)) ⟨_, _, _, rfl, s1, by simpa [iL] using hT⟩ (fun _ _ _ _ _ => trivial) ?_ ?_
      · rintro i x σ1 G G' hi ⟨x5, x6, x7, rfl, s2, hT2⟩ ⟨rfl, rfl⟩
        rw [Int.toNat_natCast] at hi
        have hil := iL_len (k := k) (c := c) (m := m) (n := i) hc hm
        simp only [Int.zero_add]
        repeat walk_at "W"
        refine ⟨(m : Nat), rfl, by omega, by omega, ?_⟩
        refine Wp.forIt walk_range (fun j σ1 G => ∃ x6 x7, σ1 = [some (.ref L), some (.ref M), some (.int (k : Nat)), some (.int (c : Nat)), some (.int (m : Nat)), some (.int (i : Nat)), x6, x7] ∧ Same H G ∧ Lrows G M ((arwTo sh k ++ iL k c m i ++ jL k i c j).map arR)) ⟨_, _, rfl, s2, by simpa [jL] using hT2⟩ (fun _ _ _ _ _ => trivial) ?_ ?_
        · rintro j x σ1 G G' hj ⟨x6, x7, rfl, s3, hT3⟩ ⟨rfl, rfl⟩
          rw [Int.toNat_natCast] at hj
          have hjl := jL_len (k := k) (i := i) (n := j) hc
          simp only [Int.zero_add]
          repeat walk_at "W"
          refine ⟨c, rfl, hc, fun G2 P2 ps s4 hP2 hP3 hP4 => ?_⟩
          have hpl := hP4.len
          have hol : (tblN c).length = ordN c := rfl
          repeat walk_at "W"
          refine ⟨((ps.map V.ref).length : Nat), rfl, by omega, by rw [List.length_map, hpl, hol]; omega, ?_⟩
          refine Wp.forIt walk_range (fun g σ1 G => ∃ x7, σ1 = [some (.ref L), some (.ref M), some (.int (k : Nat)), some (.int (c : Nat)), some (.int (m : Nat)), some (.int (i : Nat)), some (.int (j : Nat)), x7] ∧ Same H G ∧ Lrows G M ((arwTo sh k ++ iL k c m i ++ jL k i c j ++ gL k i j g).map arR)) ⟨_, rfl, s3.trans s4, by simpa [gL] using hT3.same s4⟩ (fun _ _ _ _ _ => trivial) ?_ ?_
          · rintro g x σ1 G3 G3' hg ⟨x7, rfl, s5, hT4⟩ ⟨rfl, rfl⟩
            rw [Int.toNat_natCast, List.length_map, hpl, hol] at hg
            have hgl := gL_len (k := k) (i := i) (j := j) (n := g)
            simp only [Int.zero_add]
            repeat walk_at "W"
            refine Wp.itn (fun e2 => ?_) (fun e2 => ?_)
            · have hne : i ≠ j := fun e => e2 (by rw [e])
              obtain ⟨ds, hM1, hR1⟩ := hT4
              have hdl := hR1.len
              simp only [List.length_map, List.length_append] at hdl
              repeat walk_at "W"
              refine Wp.tyl hM1 ?_
              repeat walk_at "W"
              intro p hp
              have sp := Wp.same_upd (o := .tup (nvs (arR (k, i, g, j)))) hp
              repeat walk_at "W"
              refine Wp.app (sp _ _ hM1) (by rw [List.length_map, hdl, sizeLine_eq]; omega) ?_
              repeat walk_at "W"
              refine ⟨_, rfl, fun b o e => ?_, ?_⟩
              · rw [upd_ne (fun z => by rw [z, hM] at e; cases e)]
                exact sp _ _ (s5 _ _ e)
              · rw [gL_succ, if_pos (.inl hne), ← List.append_assoc, List.map_append]
                exact Lrows.push (sp _ _ hM1) (hR1.same sp) upd_same
            · have hij : i = j := Int.ofNat.inj e2
              repeat walk_at "W"
              refine Wp.itn (fun e3 => ?_) (fun e3 => ?_)
              · have hne : g ≠ 0 := fun e => e3 (by rw [e]; rfl)
                obtain ⟨ds, hM1, hR1⟩ := hT4
                have hdl := hR1.len
                simp only [List.length_map, List.length_append] at hdl
                repeat walk_at "W"
                refine Wp.tyl hM1 ?_
                repeat walk_at "W"
                intro p hp
                have sp := Wp.same_upd (o := .tup (nvs (arR (k, i, g, j)))) hp
                repeat walk_at "W"
                refine Wp.app (sp _ _ hM1) (by rw [List.length_map, hdl, sizeLine_eq]; omega) ?_
                repeat walk_at "W"
                refine ⟨_, rfl, fun b o e => ?_, ?_⟩
                · rw [upd_ne (fun z => by rw [z, hM] at e; cases e)]
                  exact sp _ _ (s5 _ _ e)
                · rw [gL_succ, if_pos (.inr hne), ← List.append_assoc, List.map_append]
                  exact Lrows.push (sp _ _ hM1) (hR1.same sp) upd_same
              · have hg0 : g = 0 := by omega
                repeat walk_at "W"
                refine ⟨_, rfl, s5, ?_⟩
                rw [gL_succ, if_neg (by simp [hij, hg0]), List.append_nil]
                exact hT4
          · rintro σ1 G3 ⟨x7, rfl, s5, hT4⟩
            rw [Int.toNat_natCast, List.length_map, hpl, hol] at hT4
            exact ⟨_, _, rfl, s5, by rw [jL_succ, ← List.append_assoc]; exact hT4⟩
        · rintro σ1 G ⟨x6, x7, rfl, s3, hT3⟩
          rw [Int.toNat_natCast] at hT3
          exact ⟨_, _, _, rfl, s3, by rw [iL_succ, ← List.append_assoc]; exact hT3⟩
      · rintro σ1 G ⟨x5, x6, x7, rfl, s2, hT2⟩
        rw [Int.toNat_natCast] at hT2
        exact ⟨_, _, _, _, _, _, rfl, s2, by rw [arwTo_succ, getD_of e1]; exact hT2⟩
    · rintro σ1 G ⟨x2, x3, x4, x5, x6, x7, rfl, s1, hT⟩
      rw [Int.toNat_natCast, List.length_map, hbl] at hT
      repeat walk_at "W"
      exact q G M s1 hM hT
end
end K57
set_option Elab.async false
set_option linter.all false
set_option maxRecDepth 100000
set_option maxHeartbeats 8000000
namespace K57
open PySem PySem.Spec PyProof.Rows L2 Bk
open Wp (Keep wo_lt wo_le wo_gt wo_ge wo_eq wo_ne wo_in wo_nin wo_add wo_mul op_shlB ws_any wc_int wc_isi u65)
abbrev s__law_group_parts : Stmt := topS 61
abbrev N__law_group_parts : List Str := ["_law_source_here", "_law_menu", "_law_told", "_law_turn", "_law_picked"]
theorem sc__law_group_parts : FnScope N__law_group_parts ["_law_source_here"] (defScope s__law_group_parts) := ⟨rfl, rfl, rfl, by decide +kernel, rfl, by decide +kernel, by decide +kernel⟩
abbrev s__law_shuffled : Stmt := topS 62
abbrev N__law_shuffled : List Str := ["_law_source_here", "_law_row", "_law_told"]
theorem sc__law_shuffled : FnScope N__law_shuffled ["_law_source_here", "_law_row"] (defScope s__law_shuffled) := ⟨rfl, rfl, rfl, by decide +kernel, rfl, by decide +kernel, by decide +kernel⟩
local macro_rules | `(tactic| walk_at "W") => `(tactic| first
  | (with_reducible first
    | refine Wp.seq ?_ | refine Wp.asg ?_ | refine Wp.ret ?_ | refine Wp.retN ?_ | refine Wp.drop ?_ | refine Wp.nxt ?_ | refine Wp.ifs ?_ | refine Wp.gname ?_
    | refine Wp.op ?_ | refine Wp.un ?_ | refine Wp.tst ?_ | refine Wp.tb' ?_ | refine Wp.tnot ?_ | refine Wp.tand ?_ | refine Wp.tor ?_ | refine Wp.tandV ?_ | refine Wp.torV ?_ | refine Wp.tnotV ?_ | refine Wp.tif ?_ | refine Wp.tchain ?_
    | refine Wp.cb ?_ | refine Wp.call ?_ | refine Wp.cons ?_ | refine Wp.nil ?_ | refine Wp.gsub ?_ | refine Wp.cst ?_ | refine Wp.i0 ?_ | refine Wp.int1 ?_ | refine Wp.eb ?_ | refine Wp.ei ?_
    | refine Wp.gnil ?_ | refine Wp.gcons ?_ | refine Wp.mko ?_ | refine Wp.bm ?_ | refine Wp.ienum ?_ | refine Wp.tru ?_ | refine Wp.u1 ?_ | refine Wp.for_ ?_ | refine Wp.lc ?_ | refine Wp.istr ?_ | refine Wp.ilist ?_ | refine Wp.itup ?_ | refine Wp.irng1 ?_ | refine Wp.irng2 ?_ | refine Wp.yes ?_ | refine Wp.es ?_ | refine Wp.er ?_ | refine Wp.sl ?_ | refine Wp.nopart ?_ | refine Wp.part ?_ | refine Wp.lst ?_ | refine Wp.tup ?_
    | refine Wp.din ?_ | refine Wp.dnotin ?_ | refine Wp.dget ?_ | refine Wp.dget2 ?_ | refine Wp.dput ?_ | refine Wp.dnewK ?_ | refine Wp.dnewT ?_ | refine Wp.bm0 ?_ | refine Wp.m1 ?_ | refine Wp.exs ?_ | refine Wp.is0 ?_ | refine Wp.isnot0 ?_ | refine Wp.fld ?_ | refine Wp.sfld ?_
    | refine Wp.par ?_ | refine Wp.parV ?_ | refine Wp.brk ?_ | refine Wp.aug ?_ | refine Wp.ipaI ?_ | refine Wp.ipsI ?_ | refine Bk.ienumS ?_ | refine Wp.make_ ?_ | refine Wp.itnn ?_ | refine Wp.ltI ?_ | refine Wp.leI ?_ | refine Wp.leS ?_ | refine Wp.inSg ?_ | refine Wp.gtI ?_ | refine Wp.geI ?_ | refine Wp.eqI ?_ | refine Wp.neI ?_ | refine Wp.addI ?_ | refine Wp.ltS ?_ | refine Wp.eqS ?_ | refine Wp.neS ?_)
  | ((with_reducible refine' Wp.var ?hv ?_); (case hv => exact rfl))
  | ((with_reducible refine' Wp.ixl ?hs ?he ?_); (case hs => first | exact SqL.of upd_same | exact SqL.of (by assumption) | assumption); (case he => exact rfl))
  | ((with_reducible refine' Wp.setl ?hs ?he ?_); (case hs => first | exact upd_same | assumption); (case he => exact rfl))
  | ((with_reducible refine' Wp.modP ?hs ?_); (case hs => first | decide | omega))
  | ((with_reducible refine' Wp.divN ?hs ?ht ?_); (case hs => first | decide | omega); (case ht => first | decide | omega))
  | ((with_reducible refine' Wp.mulM ?hs ?ht ?_); (case hs => decide); (case ht => decide))
  | ((with_reducible refine' Wp.mulL ?hs ?_); (case hs => omega))
  | ((with_reducible refine' Wp.mulR ?hs ?_); (case hs => omega))
  | ((with_reducible refine' Wp.powS ?hs ?_); (case hs => decide))
  | ((with_reducible refine' Wp.shr ?hs ?_); (case hs => decide))
  | ((with_reducible refine' Wp.szl ?hs ?_); (case hs => first | decide | (simp; done)))
  | ((with_reducible refine' Wp.lenL ?hs ?_); (case hs => first | exact SqL.of upd_same | exact SqL.of (by assumption) | assumption))
  | ((with_reducible refine' Wp.lenT ?hs ?_); (case hs => first | exact SqT.of upd_same | exact SqT.of (by assumption) | assumption))
  | ((with_reducible refine' Wp.iteC ?hs ?_); (case hs => exact rfl)) | ((with_reducible refine' Wp.iteD ?hs ?_); (case hs => exact Bool.false_ne_true))
  | ((with_reducible refine' Wp.wp ?hs ?_); (case hs => rfl))
  | (with_reducible first | refine Wp.abs ?_ | refine Wp.max2 ?_ | refine Wp.min2 ?_)
  | ((with_reducible refine' Wp.sll ?hs ?_); (case hs => first | exact SqL.of upd_same | exact SqL.of (by assumption) | assumption)))
local macro_rules | `(tactic| walk_at "KQ") => `(tactic| first
  | exact Wp.kq "int" rfl (by decide +kernel) | exact Wp.kq "bool" rfl (by decide +kernel) | exact Wp.kq "str" rfl (by decide +kernel) | exact Wp.kq "list" rfl (by decide +kernel)
  | exact Wp.kq "tuple" rfl (by decide +kernel) | exact Wp.kq "NoneType" rfl (by decide +kernel) | exact Wp.kq "dict" rfl (by decide +kernel))

def menuP : List (Nat × Nat) := [(1, 2), (2, 1), (3, 1), (1, 2), (4, 1), (7, 1), (1, 3), (2, 2), (6, 1), (8, 1), (5, 1), (2, 1)]
theorem menuP_ok : ∀ s ∈ menuP, s.1 ∈ codes ∧ s.2 ≤ 3 ∧ 0 < s.2 ∧ (1 < s.2 ∨ 1 < ordN s.1) ∧ (arwL [s]).length ≤ 8 := by decide +kernel
/-- parts of the law -/
structure ShM (sh : List (Nat × Nat)) : Prop where
  mem : ∀ s ∈ sh, s ∈ menuP
  len : sh.length ≤ 4
  few : (arwL sh).length ≤ 8
  ne : sh ≠ []
theorem shOk_of {sh : List (Nat × Nat)} (h : ∀ s ∈ sh, s ∈ menuP) : ShOk sh := fun s hs => ⟨(menuP_ok s (h s hs)).1, (menuP_ok s (h s hs)).2.1⟩
section
variable {P : Program} {w : World} {K : PySem.W.Frag} {mg : Str → Option Value} {base : Heap}
def spGparts : Sp := fun vs H Q _ => ∃ a : Addr, vs = [.ref a] ∧ Src H a ∧ ∀ H' M sh, Keep a H H' → H M = none → Lrows H' M (sh.map shR) → ShM sh → Q (.ref M) H'
theorem ok_gparts (B : Wp.Blt mg) {f fP fA : Addr} {fd fdP fdA : FuncData} (F : Fun K "_law_group_parts" "_law_group_parts" s__law_group_parts f fd)
    (D__law_pick : Wp.Dh K mg "_law_pick" fP fdP ["_law_source_here", "_law_many"]) (G__law_pick : FnOk P w K mg base CX0 1 fP fdP ["_law_source_here", "_law_many"] spPick)
    (D__law_arrows : Wp.Dh K mg "_law_arrows" fA fdA ["_law_shapes"]) (G__law_arrows : FnOk P w K mg base CX0 2 fA fdA ["_law_shapes"] spArws) : FnOk P w K mg base CX0 3 f fd ["_law_source_here"] spGparts := by
  refine F.ok sc__law_group_parts (fun vs H Q E h => ?_) (fun cdv A outer s H vs Q E hr h => ?_)
  · obtain ⟨a, rfl, _⟩ := h
    rfl
  · obtain ⟨a, rfl, hs, q⟩ := h
    refine ⟨_, (pss_cons (ps_set (i := 1) sc__law_group_parts.nd rfl (by first | exact .inl rfl | exact .inr rfl) (pe_lst (pa_cons (pe_tup (pa_cons pe_int (pa_cons pe_int pa_nil))) (pa_cons (pe_tup (pa_cons pe_int (pa_cons pe_int pa_nil))) (pa_cons (pe_tup (pa_cons pe_int (pa_cons pe_int pa_nil))) (pa_cons (pe_tup (pa_cons pe_int (pa_cons pe_int pa_nil))) (pa_cons (pe_tup (pa_cons pe_int (pa_cons pe_int pa_nil))) (pa_cons (pe_tup (pa_cons pe_int (pa_cons pe_int pa_nil))) (pa_cons (pe_tup (pa_cons pe_int (pa_cons pe_int pa_nil))) (pa_cons (pe_tup (pa_cons pe_int (pa_cons pe_int pa_nil))) (pa_cons (pe_tup (pa_cons pe_int (pa_cons pe_int pa_nil))) (pa_cons (pe_tup (pa_cons pe_int (pa_cons pe_int pa_nil))) (pa_cons (pe_tup (pa_cons pe_int (pa_cons pe_int pa_nil))) (pa_cons (pe_tup (pa_cons pe_int (pa_cons pe_int pa_nil))) pa_nil))))))))))))))
  (pss_cons (ps_set (i := 2) sc__law_group_parts.nd rfl (by first | exact .inl rfl | exact .inr rfl) (pe_lst pa_nil))
  (pss_cons (ps_for PassesOwn.never rfl (pi_range1 (by rfl) B.range (pa_cons (pe_op (wo_add (K := K)) pe_int (pe_call G__law_pick (hr.mono (by decide)) (by rfl) D__law_pick.g D__law_pick.k D__law_pick.b .nil pass0 (pa_cons (pv 0) (pa_cons pe_int pa_nil)))) pa_nil)) (pg_name (i := 3) sc__law_group_parts.nd rfl (by first | exact .inl rfl | exact .inr rfl)) (pss_cons (ps_set (i := 4) sc__law_group_parts.nd rfl (by first | exact .inl rfl | exact .inr rfl) (pe_ix (Wp.wx_seq (K := K)) (pv 1) (pe_call G__law_pick (hr.mono (by decide)) (by rfl) D__law_pick.g D__law_pick.k D__law_pick.b .nil pass0 (pa_cons (pv 0) (pa_cons pe_int pa_nil))) (fun _ _ => rfl)))
  (pss_one (ps_if (pt_cmpR (wo_le (K := K) hr.units) (pe_callB (Wp.wc_len (K := K)) (by rfl) B.len (by decide +kernel) (pa_cons (pe_call G__law_arrows (hr.mono (by decide)) (by rfl) D__law_arrows.g D__law_arrows.k D__law_arrows.b .nil pass0 (pa_cons (pe_op (wo_add (K := K)) (pv 2) (pe_lst (pa_cons (pv 4) pa_nil))) pa_nil)) pa_nil)) pe_int (nomark _)) (pss_one (ps_expr (Wp.wbm (K := K) (pe_bm PySem.F.plainAttrs_list PySem.F.slot_list_append PySem.F.type_list_append mt_append (pv 2) (pa_cons (pv 4) pa_nil))))) pss_nil))))
  (pss_one (ps_ret (pv 2)))))), ?_⟩
    refine Wp.st (σ' := [some (.ref a), none, none, none, none]) rfl ?_
    with_reducible refine Wp.seq ?_
    refine Wp.asg ?_
    refine layM_l (rows := menuP.map shR) (layN_cons (layO_t (fun _ _ h => h) (by decide)) (layN_cons (layO_t (fun _ _ h => h) (by decide)) (layN_cons (layO_t (fun _ _ h => h) (by decide)) (layN_cons (layO_t (fun _ _ h => h) (by decide)) (layN_cons (layO_t (fun _ _ h => h) (by decide)) (layN_cons (layO_t (fun _ _ h => h) (by decide)) (layN_cons (layO_t (fun _ _ h => h) (by decide)) (layN_cons (layO_t (fun _ _ h => h) (by decide)) (layN_cons (layO_t (fun _ _ h => h) (by decide)) (layN_cons (layO_t (fun _ _ h => h) (by decide)) (layN_cons (layO_t (fun _ _ h => h) (by decide)) (layN_cons (layO_t (fun _ _ h => h) (by decide)) layN_nil)))))))))))) (by decide) _ _ fun N ns H1 s1 hN h1 h2 hne => ?_
    have hs1 : Src H1 a := by
      obtain ⟨d, s, c, e⟩ := hs
      exact ⟨d, s, c, s1 _ _ e⟩
    have hNa : N ≠ a := fun e => by
      obtain ⟨d, s, c, e2⟩ := hs
      rw [← e, hN] at e2; cases e2
    repeat walk_at "W"
    intro M hM
    have sM := Wp.same_upd (o := .lst []) hM
    have hMa : M ≠ a := fun e => by
      obtain ⟨d, s, c, e2⟩ := hs1
      rw [← e, hM] at e2; cases e2
    have hMN : M ≠ N := fun e => by rw [e, h1] at hM; cases hM
    have hs2 : Src (upd H1 M (.lst [])) a := by
      obtain ⟨d, s, c, e⟩ := hs1
      exact ⟨d, s, c, sM _ _ e⟩
    repeat walk_at "W"
    refine ⟨a, 4, rfl, hs2, by decide, by decide, fun r H2 r0 r1 k2 s2 => ?_⟩
    repeat walk_at "W"
    refine ⟨1 + r, rfl, by omega, by omega, ?_⟩
    have hnl := h2.len
    refine Wp.forIt walk_range (fun i σ1 G => ∃ x3 x4, σ1 = [some (.ref a), some (.ref N), some (.ref M), x3, x4] ∧ Keep a H1 G ∧ Src G a ∧ ∃ sh, Lrows G M (sh.map shR) ∧ (∀ s ∈ sh, s ∈ menuP) ∧ sh.length ≤ i ∧ (arwL sh).length ≤ 8 ∧ (0 < i → sh ≠ [])) ?_ (fun _ _ _ _ _ => trivial) ?_ ?_
    · refine ⟨_, _, rfl, fun b o hb e => k2 b o hb (sM _ _ e), s2, [], ⟨[], k2 _ _ hMa upd_same, trivial⟩, fun _ h => (nomatch h), Nat.le_refl _, by decide, fun h => absurd h (Nat.lt_irrefl _)⟩
    · rintro i x σ1 G G' hi ⟨x3, x4, rfl, k3, s3, sh, hT, hm, hl, h8, hn0⟩ ⟨rfl, rfl⟩
      repeat walk_at "W"
      refine ⟨a, 12, rfl, s3, by decide, by decide, fun r2 G2 r20 r21 k4 s4 => ?_⟩
      obtain ⟨j, rfl⟩ := Int.eq_ofNat_of_zero_le r20
      have hj : j < 12 := by omega
      have hj2 : j < menuP.length := hj
      have e1 : menuP[j]? = some menuP[j] := List.getElem?_eq_getElem hj2
      generalize menuP[j] = sp at e1
      obtain ⟨b, hb, hbt⟩ := h2.get (i := j) (r := shR sp) (by rw [List.getElem?_map, e1]; rfl)
      have hsm := List.mem_of_getElem? e1
      have hba : b ≠ a := fun e => by
        obtain ⟨d, s, c, e2⟩ := hs1
        rw [← e, hbt] at e2; cases e2
      have hb2 := k4 _ _ hba (k3 _ _ hba hbt)
      have hN2 := k4 _ _ hNa (k3 _ _ hNa h1)
      obtain ⟨d3, s3', c3, hs3⟩ := s3
      have hT2 : Lrows G2 M (sh.map shR) := hT.keep k4 hs3 hMa
      obtain ⟨cs, hM2, hc2⟩ := hT2
      have hcl := hc2.len
      rw [List.length_map] at hcl
      refine Wp.ixl (v := .ref b) (SqL.of hN2) (atI_nat (j := j) (by rw [List.getElem?_map, hb]; rfl)) ?_
      repeat walk_at "W"
      intro p1 hp1
      have u1 := Wp.same_upd (o := .lst [.ref b]) hp1
      refine Wp.addL ⟨M, p1, _, _, rfl, rfl, u1 _ _ hM2, upd_same, by rw [List.length_map, hcl, sizeLine_eq]; simp; omega, fun p2 hp2 => ?_⟩
      have u2 := Wp.same_upd (o := .lst (cs.map V.ref ++ [.ref b])) hp2
      repeat walk_at "W"
      have u12 := u1.trans u2
      have hrow2 : RowsO .tup (upd (upd G2 p1 (.lst [.ref b])) p2 (.lst (cs.map V.ref ++ [.ref b]))) (cs ++ [b]) ((sh ++ [sp]).map shR) := by
        rw [List.map_append]
        exact (hc2.same u12).app (RowsO.one (u12 _ _ hb2))
      have hm2 : ∀ s ∈ sh ++ [sp], s ∈ menuP := fun s hs => by
        rcases List.mem_append.mp hs with z | z
        · exact hm s z
        · rw [List.mem_singleton.mp z]; exact hsm
      refine ⟨p2, sh ++ [sp], rfl, ⟨cs ++ [b], by rw [List.map_append]; exact upd_same, hrow2⟩, shOk_of hm2, by rw [List.length_append]; simp; omega, fun G3 A3 s5 hA3 hR3 => ?_⟩
      obtain ⟨as3, hA4, hA5⟩ := hR3
      have hal := hA5.len
      rw [List.length_map] at hal
      repeat walk_at "W"
      rw [List.length_map, hal]
      have s23 : Same G2 G3 := u12.trans s5
      have s4' : Src G3 a := by
        obtain ⟨d, s, c, e⟩ := s4
        exact ⟨d, s, c, s23 _ _ e⟩
      have k34 : Keep a H1 G3 := fun b o hb e => s23 _ _ (k4 b o hb (k3 b o hb e))
      refine Wp.itd (fun h8' => ?_) (fun h8' => ?_)
      · repeat walk_at "W"
        refine Wp.tyl (s23 _ _ hM2) ?_
        repeat walk_at "W"
        refine Wp.app (s23 _ _ hM2) (by rw [List.length_map, hcl, sizeLine_eq]; omega) ?_
        repeat walk_at "W"
        have hMn : ∀ {b o}, H1 b = some o → b ≠ M := fun e z => by rw [z, hM] at e; cases e
        refine ⟨_, _, rfl, fun b o hb e => ?_, ?_, sh ++ [sp], ?_, hm2, by rw [List.length_append]; simp; omega, by omega, fun _ => by simp⟩
        · rw [upd_ne (hMn e)]
          exact k34 b o hb e
        · obtain ⟨d, s, c, e⟩ := s4'
          exact ⟨d, s, c, by rw [upd_ne (Ne.symm hMa)]; exact e⟩
        · rw [List.map_append]
          exact Lrows.push (s23 _ _ hM2) (hc2.same s23) (s23 _ _ hb2)
      · repeat walk_at "W"
        refine ⟨_, _, rfl, k34, s4', sh, ⟨cs, s23 _ _ hM2, hc2.same s23⟩, hm, by omega, h8, fun h0 => ?_⟩
        rcases Nat.eq_zero_or_pos i with z | z
        · exfalso
          have hs0 : sh = [] := List.length_eq_zero_iff.mp (by omega)
          have := (menuP_ok sp hsm).2.2.2.2
          rw [hs0] at h8'
          simp only [List.nil_append] at h8'
          omega
        · exact hn0 z
    · rintro σ1 G ⟨x3, x4, rfl, k3, s3, sh, hT, hm, hl, h8, hn0⟩
      repeat walk_at "W"
      exact q G M sh (fun b o hb e => k3 b o hb (s1 _ _ e)) (none_of_same s1 hM) hT ⟨hm, by omega, h8, hn0 (by omega)⟩
/-- the things of a row, in another order -/
def spShuf (K : PySem.W.Frag) : Sp := fun vs H Q _ => ∃ (a L : Addr) (xs : List V), vs = [.ref a, .ref L] ∧ Src H a ∧ H L = some (.lst xs) ∧ xs.length ≤ 1000 ∧ ∀ H' M ys, Keep a H H' → Src H' a → H M = none → H' M = some (.lst ys) → ys.Perm xs → Q (.ref M) H'
theorem ok_shuf (B : Wp.Blt mg) {f fP : Addr} {fd fdP : FuncData} (F : Fun K "_law_shuffled" "_law_shuffled" s__law_shuffled f fd)
    (D__law_pick : Wp.Dh K mg "_law_pick" fP fdP ["_law_source_here", "_law_many"]) (G__law_pick : FnOk P w K mg base CX0 1 fP fdP ["_law_source_here", "_law_many"] spPick) : FnOk P w K mg base CX0 2 f fd ["_law_source_here", "_law_row"] (spShuf K) := by
  refine F.ok sc__law_shuffled (fun vs H Q E h => ?_) (fun cdv A outer s H vs Q E hr h => ?_)
  · obtain ⟨a, L, xs, rfl, _⟩ := h
    rfl
  · obtain ⟨a, L, xs, rfl, hs, hL, hl, q⟩ := h
    refine ⟨_, (pss_cons (ps_set (i := 2) sc__law_shuffled.nd rfl (by first | exact .inl rfl | exact .inr rfl) (pe_lst pa_nil))
  (pss_cons (ps_set (i := 1) sc__law_shuffled.nd rfl (by first | exact .inl rfl | exact .inr rfl) (pe_callTy (Wp.wc_listU (K := K) rfl) (by rfl) B.list (by decide +kernel) (pa_cons (pv 1) pa_nil)))
  (pss_cons (ps_while PassesOwn.never (Wp.wt_truth (K := K) (pv 1) (by intro _; rfl)) (pss_one (ps_expr (Wp.wbm (K := K) (pe_bm PySem.F.plainAttrs_list PySem.F.slot_list_append PySem.F.type_list_append mt_append (pv 2) (pa_cons (Wp.wbm (K := K) (pe_bm PySem.F.plainAttrs_list PySem.F.slot_list_pop PySem.F.type_list_pop mt_popAt (pv 1) (pa_cons (pe_call G__law_pick (hr.mono (by decide)) (by rfl) D__law_pick.g D__law_pick.k D__law_pick.b .nil pass0 (pa_cons (pv 0) (pa_cons (pe_callB (Wp.wc_len (K := K)) (by rfl) B.len (by decide +kernel) (pa_cons (pv 1) pa_nil)) pa_nil))) pa_nil))) pa_nil))))))
  (pss_one (ps_ret (pv 2)))))), ?_⟩
    refine Wp.st (σ' := [some (.ref a), some (.ref L), none]) rfl ?_
    repeat walk_at "W"
    intro M hM
    have sM := Wp.same_upd (o := .lst []) hM
    have hMa : M ≠ a := fun e => by
      obtain ⟨d, s, c, e2⟩ := hs
      rw [← e, hM] at e2; cases e2
    repeat walk_at "W"
    refine .inl (Wp.lstL (SqL.of (sM _ _ hL)) fun R hR => ?_)
    have sR := Wp.same_upd (o := .lst xs) hR
    have hRM : R ≠ M := fun e => by rw [e, upd_same] at hR; cases hR
    have hRa : R ≠ a := fun e => by
      obtain ⟨d, s, c, e2⟩ := hs
      rw [← e] at e2
      rw [sM _ _ e2] at hR; cases hR
    have hs2 : Src (upd (upd H M (.lst [])) R (.lst xs)) a := by
      obtain ⟨d, s, c, e⟩ := hs
      exact ⟨d, s, c, sR _ _ (sM _ _ e)⟩
    repeat walk_at "W"
    refine whileL (fun σ' H' => σ' = [some (.ref a), some (.ref R), some (.ref M)] ∧ Keep a H H' ∧ Src H' a ∧ ∃ ys zs : List V, H' M = some (.lst ys) ∧ H' R = some (.lst zs) ∧ (ys ++ zs).Perm xs) (fun σ' H' => match H' R with | some (.lst zs) => zs.length | _ => 0) ⟨rfl, fun b o hb e => sR _ _ (sM _ _ e), hs2, [], xs, by rw [upd_ne (Ne.symm hRM)]; exact upd_same, upd_same, .refl _⟩ ?_
    rintro σ' G ⟨rfl, k1, s1, ys, zs, hM1, hR1, hp⟩
    refine ⟨R, zs, rfl, SqL.of hR1, ?_⟩
    cases zs with
    | nil =>
      refine Wp.iteD (by simp) ?_
      repeat walk_at "W"
      exact q G M ys k1 s1 hM hM1 (by simpa using hp)
    | cons z zs =>
      refine Wp.iteC (by simp) ?_
      have hpl := hp.length_eq
      rw [List.length_append] at hpl
      repeat walk_at "W"
      refine Wp.tyl hM1 ?_
      repeat walk_at "W"
      refine Wp.tyl hR1 ?_
      repeat walk_at "W"
      refine ⟨a, ((z :: zs).length : Nat), rfl, s1, by simp, by omega, fun r G2 r0 r1 k2 s2 => ?_⟩
      obtain ⟨j, rfl⟩ := Int.eq_ofNat_of_zero_le r0
      have hj : j < (z :: zs).length := by omega
      have hM2 := k2 _ _ hMa hM1
      have hR2 := k2 _ _ hRa hR1
      repeat walk_at "W"
      refine ⟨R, z :: zs, ((j : Nat) : Int), j, (z :: zs)[j], rfl, rfl, hR2, by omega, by omega, seqIx hj, List.getElem?_eq_getElem hj, ?_⟩
      repeat walk_at "W"
      have hM3 : (upd G2 R (.lst ((z :: zs).eraseIdx j))) M = some (.lst ys) := by rw [upd_ne (Ne.symm hRM)]; exact hM2
      refine Wp.app hM3 (by rw [sizeLine_eq]; omega) ?_
      have hfin : (upd (upd G2 R (.lst ((z :: zs).eraseIdx j))) M (.lst (ys ++ [(z :: zs)[j]]))) R = some (.lst ((z :: zs).eraseIdx j)) := by
        rw [upd_ne hRM]; exact upd_same
      refine ⟨⟨rfl, fun b o hb e => ?_, ?_, ys ++ [(z :: zs)[j]], (z :: zs).eraseIdx j, upd_same, hfin, ?_⟩, ?_⟩
      · have e2 := k2 _ _ hb (k1 b o hb e)
        rw [upd_ne (fun q => by rw [q, hM] at e; cases e), upd_ne (fun q => by
          have e3 := sM _ _ e
          rw [q, hR] at e3; cases e3)]
        exact e2
      · obtain ⟨d, s, c, e⟩ := s2
        exact ⟨d, s, c, by rw [upd_ne (Ne.symm hMa), upd_ne (Ne.symm hRa)]; exact e⟩
      · refine .trans ?_ hp
        rw [List.append_assoc]
        exact (List.Perm.refl ys).append (perm_erase hj)
      · show (match (upd (upd G2 R (.lst ((z :: zs).eraseIdx j))) M (.lst (ys ++ [(z :: zs)[j]]))) R with | some (.lst zs) => zs.length | _ => 0) < (match G R with | some (.lst zs) => zs.length | _ => 0)
        rw [hfin, hR1]
        simp only [List.length_eraseIdx]
        rw [if_pos hj]
        simp
end
end K57
set_option Elab.async false
set_option linter.all false
set_option maxRecDepth 100000
set_option maxHeartbeats 8000000
namespace K57
open PySem PySem.Spec PyProof.Rows L2 Bk
open Wp (Keep wo_lt wo_le wo_gt wo_ge wo_eq wo_ne wo_in wo_nin wo_add wo_mul op_shlB ws_any wc_int wc_isi u65)
abbrev s__law_group : Stmt := topS 63
abbrev N__law_group : List Str := ["_law_source_here", "_law_shapes", "_law_arrows_here", "_law_pool", "_law_signs", "_law_arrow_of", "_law_sign_of", "_law_k", "_law_rules", "_law_one", "_law_other", "_law_left_here", "_law_right", "_law_element"]
theorem sc__law_group : FnScope N__law_group ["_law_source_here", "_law_shapes"] (defScope s__law_group) := ⟨rfl, rfl, rfl, by decide +kernel, rfl, by decide +kernel, by decide +kernel⟩
local macro_rules | `(tactic| walk_at "W") => `(tactic| first
  | (with_reducible first
    | refine Wp.seq ?_ | refine Wp.asg ?_ | refine Wp.ret ?_ | refine Wp.retN ?_ | refine Wp.drop ?_ | refine Wp.nxt ?_ | refine Wp.ifs ?_ | refine Wp.gname ?_
    | refine Wp.op ?_ | refine Wp.un ?_ | refine Wp.tst ?_ | refine Wp.tb' ?_ | refine Wp.tnot ?_ | refine Wp.tand ?_ | refine Wp.tor ?_ | refine Wp.tandV ?_ | refine Wp.torV ?_ | refine Wp.tnotV ?_ | refine Wp.tif ?_ | refine Wp.tchain ?_
    | refine Wp.cb ?_ | refine Wp.call ?_ | refine Wp.cons ?_ | refine Wp.nil ?_ | refine Wp.gsub ?_ | refine Wp.cst ?_ | refine Wp.i0 ?_ | refine Wp.int1 ?_ | refine Wp.eb ?_ | refine Wp.ei ?_
    | refine Wp.gnil ?_ | refine Wp.gcons ?_ | refine Wp.mko ?_ | refine Wp.bm ?_ | refine Wp.ienum ?_ | refine Wp.tru ?_ | refine Wp.u1 ?_ | refine Wp.for_ ?_ | refine Wp.lc ?_ | refine Wp.istr ?_ | refine Wp.ilist ?_ | refine Wp.itup ?_ | refine Wp.irng1 ?_ | refine Wp.irng2 ?_ | refine Wp.yes ?_ | refine Wp.es ?_ | refine Wp.er ?_ | refine Wp.sl ?_ | refine Wp.nopart ?_ | refine Wp.part ?_ | refine Wp.lst ?_ | refine Wp.tup ?_
    | refine Wp.din ?_ | refine Wp.dnotin ?_ | refine Wp.dget ?_ | refine Wp.dget2 ?_ | refine Wp.dput ?_ | refine Wp.dnewK ?_ | refine Wp.dnewT ?_ | refine Wp.bm0 ?_ | refine Wp.m1 ?_ | refine Wp.exs ?_ | refine Wp.is0 ?_ | refine Wp.isnot0 ?_ | refine Wp.fld ?_ | refine Wp.sfld ?_
    | refine Wp.par ?_ | refine Wp.parV ?_ | refine Wp.brk ?_ | refine Wp.aug ?_ | refine Wp.ipaI ?_ | refine Wp.ipsI ?_ | refine Bk.ienumS ?_ | refine Wp.make_ ?_ | refine Wp.itnn ?_ | refine Wp.ltI ?_ | refine Wp.leI ?_ | refine Wp.leS ?_ | refine Wp.inSg ?_ | refine Wp.gtI ?_ | refine Wp.geI ?_ | refine Wp.eqI ?_ | refine Wp.neI ?_ | refine Wp.addI ?_ | refine Wp.ltS ?_ | refine Wp.eqS ?_ | refine Wp.neS ?_)
  | ((with_reducible refine' Wp.var ?hv ?_); (case hv => exact rfl))
  | ((with_reducible refine' Wp.ixl ?hs ?he ?_); (case hs => first | exact SqL.of upd_same | exact SqL.of (by assumption) | assumption); (case he => exact rfl))
  | ((with_reducible refine' Wp.setl ?hs ?he ?_); (case hs => first | exact upd_same | assumption); (case he => exact rfl))
  | ((with_reducible refine' Wp.modP ?hs ?_); (case hs => first | decide | omega))
  | ((with_reducible refine' Wp.divN ?hs ?ht ?_); (case hs => first | decide | omega); (case ht => first | decide | omega))
  | ((with_reducible refine' Wp.mulM ?hs ?ht ?_); (case hs => decide); (case ht => decide))
  | ((with_reducible refine' Wp.mulL ?hs ?_); (case hs => omega))
  | ((with_reducible refine' Wp.mulR ?hs ?_); (case hs => omega))
  | ((with_reducible refine' Wp.powS ?hs ?_); (case hs => decide))
  | ((with_reducible refine' Wp.shr ?hs ?_); (case hs => decide))
  | ((with_reducible refine' Wp.szl ?hs ?_); (case hs => first | decide | (simp; done)))
  | ((with_reducible refine' Wp.lenL ?hs ?_); (case hs => first | exact SqL.of upd_same | exact SqL.of (by assumption) | assumption))
  | ((with_reducible refine' Wp.lenT ?hs ?_); (case hs => first | exact SqT.of upd_same | exact SqT.of (by assumption) | assumption))
  | ((with_reducible refine' Wp.iteC ?hs ?_); (case hs => exact rfl)) | ((with_reducible refine' Wp.iteD ?hs ?_); (case hs => exact Bool.false_ne_true))
  | ((with_reducible refine' Wp.wp ?hs ?_); (case hs => rfl))
  | (with_reducible first | refine Wp.abs ?_ | refine Wp.max2 ?_ | refine Wp.min2 ?_)
  | ((with_reducible refine' Wp.sll ?hs ?_); (case hs => first | exact SqL.of upd_same | exact SqL.of (by assumption) | assumption)))
local macro_rules | `(tactic| walk_at "KQ") => `(tactic| first
  | exact Wp.kq "int" rfl (by decide +kernel) | exact Wp.kq "bool" rfl (by decide +kernel) | exact Wp.kq "str" rfl (by decide +kernel) | exact Wp.kq "list" rfl (by decide +kernel)
  | exact Wp.kq "tuple" rfl (by decide +kernel) | exact Wp.kq "NoneType" rfl (by decide +kernel) | exact Wp.kq "dict" rfl (by decide +kernel))

def pools : List Str := ["abcdefgh", "bdfhjlnp", "acegikmo", "stuvwxyz"]
theorem pool_ok : ∀ z ∈ pools, (cl z).Nodup ∧ (cl z).length = 8 ∧ ∀ n < 9, 0 < n → goodSigns (.str (mkS ((cl z).take n))) = true ∧ ((cl z).take n).length = n := by decide +kernel
theorem rows_src {H H' : Hp} {a : Addr} {bs : List Addr} {rows : List (List Nat)} (hs : Src H a) (k : Keep a H H') (h : RowsO .tup H bs rows) : RowsO .tup H' bs rows := by
  obtain ⟨d, s, c, e⟩ := hs
  exact h.keepT e k
theorem src_off {H : Hp} {a b : Addr} (hs : Src H a) (h : H b = none) : b ≠ a := fun e => by
  obtain ⟨d, s, c, e2⟩ := hs
  rw [← e, h] at e2; cases e2
theorem ne_of_none' {H : Hp} {p b : Addr} {o : HO} (hp : H p = none) (h : H b = some o) : p ≠ b := fun e => by rw [e, h] at hp; cases hp
/-- a group book of the law -/
structure Grp (H : Hp) (S : Str) (sh : List (Nat × Nat)) (As : List Arw) (rs : List (Str × Str)) (R D : Addr) : Prop where
  sg : Sgd sh (cl S) As
  good : goodSigns (.str S) = true
  le : S.length ≤ 8
  bk : Gbk (cl S) (bS (cl S) As) (eS (cl S) As) (prS sh (cl S) As) rs
  rok : ∃ bs, H R = some (.tup (bs.map V.ref)) ∧ RulesAt H bs rs
  arw : ∃ kvs, H D = some (.dK kvs) ∧ ∀ x ∈ cl S, ∃ b, valV kvs (Sum.inr (mkS [x])) = some (.ref b) ∧ H b = some (.tup (nvs (arR (arwOf (cl S) As x))))
theorem Grp.same {H H' : Hp} {S : Str} {sh : List (Nat × Nat)} {As : List Arw} {rs : List (Str × Str)} {R D : Addr} (s : Same H H') (h : Grp H S sh As rs R D) : Grp H' S sh As rs R D := by
  obtain ⟨bs, h1, h2⟩ := h.rok
  obtain ⟨kvs, h3, h4⟩ := h.arw
  refine ⟨h.sg, h.good, h.le, h.bk, ⟨bs, s _ _ h1, h2.same s⟩, kvs, s _ _ h3, fun x hx => ?_⟩
  obtain ⟨b, e1, e2⟩ := h4 x hx
  exact ⟨b, e1, s _ _ e2⟩
theorem arwL_pos {sh : List (Nat × Nat)} (h : ShM sh) : 0 < (arwL sh).length := by
  cases sh with
  | nil => exact absurd rfl h.ne
  | cons s r =>
    obtain ⟨c, m⟩ := s
    obtain ⟨_, _, h3, h4, _⟩ := menuP_ok _ (h.mem _ List.mem_cons_self)
    have hc := (menuP_ok _ (h.mem _ List.mem_cons_self)).1
    have ho := (ord_le _ hc).1
    simp only at h3 h4 ho
    rcases h4 with z | z
    · exact List.length_pos_of_mem (mem_arwL.mpr (show okA ((c, m) :: r) (0, 0, 0, 1) from ⟨c, m, rfl, h3, z, ho, .inl (by decide)⟩))
    · exact List.length_pos_of_mem (mem_arwL.mpr (show okA ((c, m) :: r) (0, 0, 1, 0) from ⟨c, m, rfl, h3, h3, z, .inr (by decide)⟩))
section
variable {P : Program} {w : World} {K : PySem.W.Frag} {mg : Str → Option Value} {base : Heap}
def spGroup : Sp := fun vs H Q _ => ∃ (a L : Addr) (sh : List (Nat × Nat)), vs = [.ref a, .ref L] ∧ Src H a ∧ L ≠ a ∧ Lrows H L (sh.map shR) ∧ ShM sh ∧
  ∀ H' T S As rs R D, Keep a H H' → H' T = some (.tup [.str S, .ref R, .ref D]) → Grp H' S sh As rs R D → Q (.ref T) H'
theorem ok_group (B : Wp.Blt mg) {f fP fA fS fT : Addr} {fd fdP fdA fdS fdT : FuncData} (F : Fun K "_law_group" "_law_group" s__law_group f fd)
    (D__law_pick : Wp.Dh K mg "_law_pick" fP fdP ["_law_source_here", "_law_many"]) (G__law_pick : FnOk P w K mg base CX0 1 fP fdP ["_law_source_here", "_law_many"] spPick)
    (D__law_products : Wp.Dh K mg "_law_products" fT fdT ["_law_code"]) (G__law_products : FnOk P w K mg base CX0 1 fT fdT ["_law_code"] spProd)
    (D__law_arrows : Wp.Dh K mg "_law_arrows" fA fdA ["_law_shapes"]) (G__law_arrows : FnOk P w K mg base CX0 2 fA fdA ["_law_shapes"] spArws)
    (D__law_shuffled : Wp.Dh K mg "_law_shuffled" fS fdS ["_law_source_here", "_law_row"]) (G__law_shuffled : FnOk P w K mg base CX0 2 fS fdS ["_law_source_here", "_law_row"] (spShuf K)) : FnOk P w K mg base CX0 3 f fd ["_law_source_here", "_law_shapes"] spGroup := by
  refine F.ok sc__law_group (fun vs H Q E h => ?_) (fun cdv A outer s H vs Q E hr h => ?_)
  · obtain ⟨a, L, sh, rfl, _⟩ := h
    rfl
  · obtain ⟨a, L, sh, rfl, hs, hLa, hL, hsh, q⟩ := h
    refine ⟨_, (pss_cons (ps_set (i := 2) sc__law_group.nd rfl (by first | exact .inl rfl | exact .inr rfl) (pe_call G__law_shuffled (hr.mono (by decide)) (by rfl) D__law_shuffled.g D__law_shuffled.k D__law_shuffled.b .nil pass0 (pa_cons (pv 0) (pa_cons (pe_call G__law_arrows (hr.mono (by decide)) (by rfl) D__law_arrows.g D__law_arrows.k D__law_arrows.b .nil pass0 (pa_cons (pv 1) pa_nil)) pa_nil))))
  (pss_cons (ps_set (i := 3) sc__law_group.nd rfl (by first | exact .inl rfl | exact .inr rfl) (pe_ix (Wp.wx_seq (K := K)) (pe_lst (pa_cons pe_str (pa_cons pe_str (pa_cons pe_str (pa_cons pe_str pa_nil))))) (pe_call G__law_pick (hr.mono (by decide)) (by rfl) D__law_pick.g D__law_pick.k D__law_pick.b .nil pass0 (pa_cons (pv 0) (pa_cons pe_int pa_nil))) (fun _ _ => rfl)))
  (pss_cons (ps_set (i := 4) sc__law_group.nd rfl (by first | exact .inl rfl | exact .inr rfl) (pe_slice (ws_any (K := K)) (pv 3) po_none (po_some (pe_callB (Wp.wc_len (K := K)) (by rfl) B.len (by decide +kernel) (pa_cons (pv 2) pa_nil)))))
  (pss_cons (ps_set (i := 5) sc__law_group.nd rfl (by first | exact .inl rfl | exact .inr rfl) pe_dnewK)
  (pss_cons (ps_set (i := 6) sc__law_group.nd rfl (by first | exact .inl rfl | exact .inr rfl) pe_dnewT)
  (pss_cons (ps_for PassesOwn.never rfl (pi_range1 (by rfl) B.range (pa_cons (pe_callB (Wp.wc_len (K := K)) (by rfl) B.len (by decide +kernel) (pa_cons (pv 2) pa_nil)) pa_nil)) (pg_name (i := 7) sc__law_group.nd rfl (by first | exact .inl rfl | exact .inr rfl)) (pss_cons (ps_dput (hu_of hr) (pv 5) (pe_ix (Wp.wx_seq (K := K)) (pv 4) (pv 7) (fun _ _ => rfl)) (pe_ix (Wp.wx_seq (K := K)) (pv 2) (pv 7) (fun _ _ => rfl)) rfl)
  (pss_one (ps_dput (hu_of hr) (pv 6) (pe_ix (Wp.wx_seq (K := K)) (pv 2) (pv 7) (fun _ _ => rfl)) (pe_ix (Wp.wx_seq (K := K)) (pv 4) (pv 7) (fun _ _ => rfl)) rfl))))
  (pss_cons (ps_set (i := 8) sc__law_group.nd rfl (by first | exact .inl rfl | exact .inr rfl) (pe_lst pa_nil))
  (pss_cons (ps_for PassesOwn.never rfl (pi_str (pv 4)) (pg_name (i := 9) sc__law_group.nd rfl (by first | exact .inl rfl | exact .inr rfl)) (pss_one (ps_for PassesOwn.never rfl (pi_str (pv 4)) (pg_name (i := 10) sc__law_group.nd rfl (by first | exact .inl rfl | exact .inr rfl)) (pss_cons (ps_par (i := 11) (j := 12) (by rfl) sc__law_group.nd rfl rfl (by decide) rfl rfl (pa_cons (pe_dget (hu_of hr) (pv 5) (pv 9) (fun _ _ => rfl)) (pa_cons (pe_dget (hu_of hr) (pv 5) (pv 10) (fun _ _ => rfl)) pa_nil)) (by rfl))
  (pss_one (ps_if (PW.pt (pw_and (pt_cmpR (wo_eq (K := K) hr.units) (pe_ix (Wp.wx_seq (K := K)) (pv 11) pe_int (fun _ _ => rfl)) (pe_ix (Wp.wx_seq (K := K)) (pv 12) pe_int (fun _ _ => rfl)) (nomark _)) (pw_and1 (pt_cmpR (wo_eq (K := K) hr.units) (pe_ix (Wp.wx_seq (K := K)) (pv 11) pe_int (fun _ _ => rfl)) (pe_ix (Wp.wx_seq (K := K)) (pv 12) pe_int (fun _ _ => rfl)) (nomark _))))) (pss_cons (ps_set (i := 13) sc__law_group.nd rfl (by first | exact .inl rfl | exact .inr rfl) (pe_ix (Wp.wx_seq (K := K)) (pe_ix (Wp.wx_seq (K := K)) (pe_call G__law_products (hr.mono (by decide)) (by rfl) D__law_products.g D__law_products.k D__law_products.b .nil pass0 (pa_cons (pe_ix (Wp.wx_seq (K := K)) (pe_ix (Wp.wx_seq (K := K)) (pv 1) (pe_ix (Wp.wx_seq (K := K)) (pv 11) pe_int (fun _ _ => rfl)) (fun _ _ => rfl)) pe_int (fun _ _ => rfl)) pa_nil)) (pe_ix (Wp.wx_seq (K := K)) (pv 11) pe_int (fun _ _ => rfl)) (fun _ _ => rfl)) (pe_ix (Wp.wx_seq (K := K)) (pv 12) pe_int (fun _ _ => rfl)) (fun _ _ => rfl)))
  (pss_one (ps_expr (Wp.wbm (K := K) (pe_bm PySem.F.plainAttrs_list PySem.F.slot_list_append PySem.F.type_list_append mt_append (pv 8) (pa_cons (pe_tup (pa_cons (pe_op (wo_add (K := K)) (pv 9) (pv 10)) (pa_cons (pe_dget2 (hu_of hr) (pv 6) (pe_tup (pa_cons (pe_ix (Wp.wx_seq (K := K)) (pv 11) pe_int (fun _ _ => rfl)) (pa_cons (pe_ix (Wp.wx_seq (K := K)) (pv 11) pe_int (fun _ _ => rfl)) (pa_cons (pv 13) (pa_cons (pe_ix (Wp.wx_seq (K := K)) (pv 12) pe_int (fun _ _ => rfl)) pa_nil))))) pe_str ⟨rfl, rfl, rfl, rfl⟩) pa_nil))) pa_nil)))))) pss_nil))))))
  (pss_one (ps_ret (pe_tup (pa_cons (pv 4) (pa_cons (pe_callTy (Wp.wc_tuple (K := K)) (by rfl) B.tuple (by decide +kernel) (pa_cons (pe_call G__law_shuffled (hr.mono (by decide)) (by rfl) D__law_shuffled.g D__law_shuffled.k D__law_shuffled.b .nil pass0 (pa_cons (pv 0) (pa_cons (pv 8) pa_nil))) pa_nil)) (pa_cons (pv 5) pa_nil)))))))))))))), ?_⟩
    refine Wp.st (σ' := [some (.ref a), some (.ref L), none, none, none, none, none, none, none, none, none, none, none, none]) rfl ?_
    repeat walk_at "W"
    refine ⟨L, sh, rfl, hL, shOk_of hsh.mem, by have := hsh.len; omega, fun H1 M s1 hM hA => ?_⟩
    obtain ⟨cs, hM1, hM2⟩ := hA
    have hcl := hM2.len
    rw [List.length_map] at hcl
    have hfew := hsh.few
    have hs1 : Src H1 a := by
      obtain ⟨d, s, c, e⟩ := hs
      exact ⟨d, s, c, s1 _ _ e⟩
    repeat walk_at "W"
    refine ⟨a, M, _, rfl, hs1, hM1, by rw [List.length_map]; omega, fun H2 A2 ys k2 s2 hA2 hY hp => ?_⟩
    obtain ⟨ds, As, rfl, hperm, hR⟩ := rows_shuf (f := arR) (rows_src hs1 k2 hM2) hp
    have hAl := hperm.length_eq
    have hdl := hR.len
    rw [List.length_map] at hdl
    have hAp : 0 < As.length := by rw [hAl]; exact arwL_pos hsh
    have hA8 : As.length ≤ 8 := by omega
    repeat walk_at "W"
    intro PL hPL
    have sPL := Wp.same_upd (o := .lst (pools.map V.str)) hPL
    have hs3 : Src (upd H2 PL (.lst (pools.map V.str))) a := by
      obtain ⟨d, s, c, e⟩ := s2
      exact ⟨d, s, c, sPL _ _ e⟩
    have hPLa : PL ≠ a := fun e => by
      obtain ⟨d, s, c, e2⟩ := s2
      rw [← e, hPL] at e2; cases e2
    repeat walk_at "W"
    refine ⟨a, 4, rfl, hs3, by decide, by decide, fun r H3 r0 r1 k3 s3 => ?_⟩
    obtain ⟨j, rfl⟩ := Int.eq_ofNat_of_zero_le r0
    have hj : j < pools.length := by show j < 4; omega
    have e1 : pools[j]? = some pools[j] := List.getElem?_eq_getElem hj
    generalize pools[j] = pool at e1
    obtain ⟨pn, pl, pg⟩ := pool_ok _ (List.mem_of_getElem? e1)
    repeat walk_at "W"
    refine Wp.ixl (v := .str pool) (SqL.of (k3 _ _ hPLa upd_same)) (atI_nat (j := j) (by show (pools.map V.str)[j]? = _; rw [List.getElem?_map, e1]; rfl)) ?_
    repeat walk_at "W"
    have hA2a : A2 ≠ a := src_off hs1 hA2
    have hA3 : H3 A2 = some (.lst (ds.map V.ref)) := k3 _ _ hA2a (sPL _ _ hY)
    refine Wp.lenL (SqL.of hA3) ⟨_, rfl, .inr (.inr ⟨pool, rfl, by rw [← len_cl, pl, sizeLine_eq]; decide, ?_⟩)⟩
    rw [cutS_hi (z := pool) As.length (by rw [List.length_map, hdl])]
    obtain ⟨pg1, pg2⟩ := pg As.length (by omega) hAp
    have hSn : ((cl pool).take As.length).Nodup := pn.sublist (List.take_sublist _ _)
    generalize hSl : (cl pool).take As.length = Sl at pg1 pg2 hSn
    have hR3 : RowsO .tup H3 ds (As.map arR) := rows_src hs3 k3 (hR.same sPL)
    have hAnd : As.Nodup := hperm.nodup_iff.mpr nodup_arwL
    have hsgd : Sgd sh Sl As := ⟨fun s hs => (menuP_ok s (hsh.mem s hs)).1, pg2, hSn, hAnd, fun a => by rw [hperm.mem_iff]; exact mem_arwL⟩
    repeat walk_at "W"
    intro D hD
    have sD := Wp.same_upd (o := .dK []) hD
    repeat walk_at "W"
    intro N hN
    have sN := Wp.same_upd (o := .dT []) hN
    have hND : N ≠ D := fun e => by rw [e, upd_same] at hN; cases hN
    repeat walk_at "W"
    have sDN : Same H3 (upd (upd H3 D (.dK [])) N (.dT [])) := sD.trans sN
    have hA4 : (upd (upd H3 D (.dK [])) N (.dT [])) A2 = some (.lst (ds.map V.ref)) := sDN _ _ hA3
    refine Wp.lenL (SqL.of hA4) ?_
    repeat walk_at "W"
    refine ⟨((ds.map V.ref).length : Nat), rfl, by omega, by rw [List.length_map, hdl]; omega, ?_⟩
    refine Wp.forIt walk_range (fun k σ1 G => ∃ x7, σ1 = [some (.ref a), some (.ref L), some (.ref A2), some (.str pool), some (.str (mkS Sl)), some (.ref D), some (.ref N), x7, none, none, none, none, none, none] ∧ Same H3 G ∧ ∃ kvs kvt, G D = some (.dK kvs) ∧ G N = some (.dT kvt) ∧ ArwD Sl ds k kvs ∧ SgnD Sl As k kvt ∧ kvs.length ≤ k ∧ kvt.length ≤ k) ⟨_, rfl, sDN, [], [], by rw [upd_ne (Ne.symm hND)]; exact upd_same, upd_same, fun m x h => absurd h (Nat.not_lt_zero _), fun a => by simp; rfl, Nat.le_refl _, Nat.le_refl _⟩ (fun _ _ _ _ _ => trivial) ?_ ?_
    · rintro k x σ1 G G' hk ⟨x7, rfl, s4, kvs, kvt, hD1, hN1, hAD, hSD, l1, l2⟩ ⟨rfl, rfl⟩
      rw [Int.toNat_natCast, List.length_map, hdl] at hk
      simp only [Int.zero_add]
      have e2 : As[k]? = some As[k] := List.getElem?_eq_getElem hk
      have e3 : Sl[k]? = some Sl[k] := List.getElem?_eq_getElem (by omega)
      generalize As[k] = aa at e2
      generalize Sl[k] = c at e3
      obtain ⟨b, hb, hbt⟩ := (hR3.same s4).get (i := k) (r := arR aa) (by rw [List.getElem?_map, e2]; rfl)
      have hc4 : atI (mkS Sl).cps.toList ((k : Nat) : Int) = some c := atI_nat (by show (cl (mkS Sl))[k]? = _; rw [cl_mk]; exact e3)
      have hlS : (mkS Sl).length ≤ sizeLine := by rw [len_mk, pg2, sizeLine_eq]; omega
      have hA5 : atI (ds.map V.ref) ((k : Nat) : Int) = some (.ref b) := atI_nat (by rw [List.getElem?_map, hb]; rfl)
      repeat walk_at "W"
      refine Wp.ixl (SqL.of (s4 _ _ hA3)) hA5 ?_
      repeat walk_at "W"
      refine Wp.ixs hlS hc4 ?_
      refine Wp.dK_put hD1 (by rw [sizeLine_eq]; omega) ?_
      have hN2 : (upd G' D (.dK (putK kvs (Sum.inr (mkS [c])) (.ref b)))) N = some (.dT kvt) := by rw [upd_ne hND]; exact hN1
      have hA6 : (upd G' D (.dK (putK kvs (Sum.inr (mkS [c])) (.ref b)))) A2 = some (.lst (ds.map V.ref)) := by
        rw [upd_ne (fun e => by rw [e, hD] at hA3; cases hA3)]; exact s4 _ _ hA3
      have hb6 : (upd G' D (.dK (putK kvs (Sum.inr (mkS [c])) (.ref b)))) b = some (.tup ((arK aa).map kV)) := by
        rw [upd_ne (fun e => by rw [e, hD1] at hbt; cases hbt)]; exact hbt
      repeat walk_at "W"
      refine Wp.ixs hlS hc4 ?_
      repeat walk_at "W"
      refine Wp.ixl (SqL.of hA6) hA5 ?_
      refine Wp.dT_put hN2 hb6 (by rw [sizeLine_eq]; omega) ?_
      refine ⟨_, rfl, fun b' o e => ?_, _, _, by rw [upd_ne (Ne.symm hND)]; exact upd_same, upd_same, hAD.put hSn hb e3, hSD.put hAnd e2 e3, ?_, ?_⟩
      · rw [upd_ne (fun q => by
          have := sD _ _ e
          rw [q, hN] at this; cases this), upd_ne (fun q => by rw [q, hD] at e; cases e)]
        exact s4 _ _ e
      · exact Nat.le_trans (length_putK _ _ _) (by omega)
      · exact Nat.le_trans (length_putK _ _ _) (by omega)
    rintro σ1 G ⟨x7, rfl, s4, kvs, kvt, hD1, hN1, hAD, hSD, l1, l2⟩
    rw [Int.toNat_natCast, List.length_map, hdl] at hAD hSD
    repeat walk_at "W"
    intro M2 hM2
    have sM2 := Wp.same_upd (o := .lst []) hM2
    have harw := hAD.all pg2 (hR3.same s4)
    have hL3 : Lrows H3 L (sh.map shR) := by
      obtain ⟨lb, g1, g2⟩ := hL.same s1
      exact ⟨lb, k3 _ _ hLa (sPL _ _ (k2 _ _ hLa g1)), rows_src hs3 k3 ((rows_src hs1 k2 g2).same sPL)⟩
    obtain ⟨lb, hL4, hL5⟩ := hL3
    have hSl0 : cl (mkS Sl) = Sl := cl_mk Sl
    have hsz : (mkS Sl).cps.size = Sl.length := by show (mkS Sl).length = _; exact len_mk Sl
    repeat walk_at "W"
    refine Wp.forIt walk_str (fun i σ1 G1 => ∃ x9 x10 x11 x12 x13, σ1 = [some (.ref a), some (.ref L), some (.ref A2), some (.str pool), some (.str (mkS Sl)), some (.ref D), some (.ref N), x7, some (.ref M2), x9, x10, x11, x12, x13] ∧ Same G G1 ∧ ∃ bs, G1 M2 = some (.lst (bs.map V.ref)) ∧ RulesAt G1 bs (grpL (bS Sl As) (eS Sl As) (prS sh Sl As) (Sl.take i) Sl)) ⟨_, _, _, _, _, rfl, sM2, [], upd_same, trivial⟩ (fun _ _ _ _ _ => trivial) ?_ ?_
    · rintro i x σ1 G1 G1' hi ⟨x9, x10, x11, x12, x13, rfl, s5, bs, hB1, hB2⟩ ⟨rfl, c1, hc1, rfl⟩
      rw [hsz] at hi
      have hx1 : Sl[i]? = some c1 := by rw [← hSl0]; show (mkS Sl).cps.toList[i]? = _; rw [Array.getElem?_toList]; exact hc1
      have hm1 := List.mem_of_getElem? hx1
      obtain ⟨b1, hv1, hb1⟩ := harw c1 hm1
      have hgl := grpL_len (b := bS Sl As) (e := eS Sl As) (pr := prS sh Sl As) (xs := Sl.take i) (ys := Sl)
      rw [List.length_take] at hgl
      have hgl2 : (grpL (bS Sl As) (eS Sl As) (prS sh Sl As) (Sl.take i) Sl).length ≤ 64 := Nat.le_trans hgl (Nat.le_trans (Nat.mul_le_mul (Nat.min_le_left _ _) (Nat.le_refl _)) (Nat.le_trans (Nat.mul_le_mul (show i ≤ 8 by omega) (show Sl.length ≤ 8 by omega)) (by decide)))
      repeat walk_at "W"
      refine Wp.forIt walk_str (fun j σ1 G2 => ∃ x10 x11 x12 x13, σ1 = [some (.ref a), some (.ref L), some (.ref A2), some (.str pool), some (.str (mkS Sl)), some (.ref D), some (.ref N), x7, some (.ref M2), some (.str ⟨#[c1]⟩), x10, x11, x12, x13] ∧ Same G G2 ∧ ∃ bs, G2 M2 = some (.lst (bs.map V.ref)) ∧ RulesAt G2 bs (grpL (bS Sl As) (eS Sl As) (prS sh Sl As) (Sl.take i) Sl ++ rowG (bS Sl As) (eS Sl As) (prS sh Sl As) c1 (Sl.take j))) ⟨_, _, _, _, rfl, s5, bs, hB1, by rw [List.take_zero]; simpa [rowG] using hB2⟩ (fun _ _ _ _ _ => trivial) ?_ ?_
      · rintro j x σ1 G2 G2' hj ⟨x10, x11, x12, x13, rfl, s6, bs, hB3, hB4⟩ ⟨rfl, c2, hc2, rfl⟩
        rw [hsz] at hj
        have hx2 : Sl[j]? = some c2 := by rw [← hSl0]; show (mkS Sl).cps.toList[j]? = _; rw [Array.getElem?_toList]; exact hc2
        have hm2 := List.mem_of_getElem? hx2
        obtain ⟨b2, hv2, hb2⟩ := harw c2 hm2
        have hrl := rowG_len (b := bS Sl As) (e := eS Sl As) (pr := prS sh Sl As) (x := c1) (ys := Sl.take j)
        rw [List.length_take] at hrl
        have hbl := hB4.len
        rw [List.length_append] at hbl
        have htk : Sl.take (j + 1) = Sl.take j ++ [c2] := by rw [List.take_add_one, hx2]; rfl
        repeat walk_at "W"
        refine Wp.dK_get (s6 _ _ hD1) hv1 ?_
        repeat walk_at "W"
        refine Wp.dK_get (s6 _ _ hD1) hv2 ?_
        repeat walk_at "W"
        have hb1' := s6 _ _ hb1
        have hb2' := s6 _ _ hb2
        have okl := (hsgd.ok _).mp (hsgd.arw hm1).1
        have okr := (hsgd.ok _).mp (hsgd.arw hm2).1
        have hmade := hsgd.made hm1 hm2
        have hcc : (eS Sl As c1 = bS Sl As c2) ↔ ((arwOf Sl As c1).1 = (arwOf Sl As c2).1 ∧ (arwOf Sl As c1).2.2.2 = (arwOf Sl As c2).2.1) := by
          unfold eS bS
          exact ⟨fun e => Prod.mk.inj e, fun e => by rw [Prod.mk.injEq]; exact e⟩
        generalize hal : arwOf Sl As c1 = al at hb1' okl hmade hcc
        generalize har : arwOf Sl As c2 = ar at hb2' okr hmade hcc
        obtain ⟨l0, l1, l2', l3⟩ := al
        obtain ⟨r0', r1', r2, r3⟩ := ar
        obtain ⟨c, m, oe, o1, o2, o3, o4⟩ := okl
        obtain ⟨c', m', oe', p1, p2, p3, p4⟩ := okr
        simp only at oe o1 o2 o3 oe' p1 p2 p3 hcc
        refine Wp.ixt (SqT.of hb1') (nv_at (i := 0) (n := l0) rfl) ?_
        repeat walk_at "W"
        refine Wp.ixt (SqT.of hb2') (nv_at (i := 0) (n := r0') rfl) ?_
        repeat walk_at "W"
        have skip : ¬ (l0 = r0' ∧ l3 = r1') → ∃ bs, G2' M2 = some (.lst (bs.map V.ref)) ∧ RulesAt G2' bs (grpL (bS Sl As) (eS Sl As) (prS sh Sl As) (Sl.take i) Sl ++ rowG (bS Sl As) (eS Sl As) (prS sh Sl As) c1 (Sl.take (j + 1))) := fun hn => by
          refine ⟨bs, hB3, ?_⟩
          rw [htk, rowG_snoc, if_neg (fun e => hn (hcc.mp e)), List.append_nil]
          exact hB4
        refine Wp.itd (fun e1 => ?_) (fun e1 => ?_)
        · have e1' : l0 = r0' := Int.ofNat.inj e1
          repeat walk_at "W"
          refine Wp.ixt (SqT.of hb1') (nv_at (i := 3) (n := l3) rfl) ?_
          repeat walk_at "W"
          refine Wp.ixt (SqT.of hb2') (nv_at (i := 1) (n := r1') rfl) ?_
          repeat walk_at "W"
          refine Wp.itd (fun e2 => ?_) (fun e2 => ?_)
          · have e2' : l3 = r1' := Int.ofNat.inj e2
            have hc := hcc.mpr ⟨e1', e2'⟩
            have hcod : codeA sh (l0, l1, l2', l3) = c := codeA_of oe
            have hmd := hmade hc
            rw [hcod] at hmd
            simp only at hmd
            subst e1'
            rw [oe] at oe'
            cases oe'
            obtain ⟨bsp, hbs1, hbs2⟩ := hL5.get (i := l0) (r := shR (c, m)) (by rw [List.getElem?_map, oe]; rfl)
            have s36 : Same H3 G2' := s4.trans s6
            have hcm := hsgd.co _ (List.mem_of_getElem? oe)
            obtain ⟨t1, t2⟩ := tbl_at c hcm l2' o3 r2 p3
            repeat walk_at "W"
            refine Wp.ixt (SqT.of hb1') (nv_at (i := 0) (n := l0) rfl) ?_
            refine Wp.ixl (v := .ref bsp) (SqL.of (s36 _ _ hL4)) (atI_nat (j := l0) (by rw [List.getElem?_map, hbs1]; rfl)) ?_
            repeat walk_at "W"
            refine Wp.ixt (SqT.of (s36 _ _ hbs2)) (nv_at (r := shR (c, m)) (i := 0) (n := c) rfl) ?_
            repeat walk_at "W"
            refine ⟨c, rfl, hcm, fun G3 P2 ps s7 hP2 hP3 hP4 => ?_⟩
            obtain ⟨rowb, hr1, hr2⟩ := hP4.get t1
            repeat walk_at "W"
            refine Wp.ixt (SqT.of (s7 _ _ hb1')) (nv_at (i := 2) (n := l2') rfl) ?_
            refine Wp.ixl (v := .ref rowb) (SqL.of hP3) (atI_nat (j := l2') (by rw [List.getElem?_map, hr1]; rfl)) ?_
            repeat walk_at "W"
            refine Wp.ixt (SqT.of (s7 _ _ hb2')) (nv_at (i := 2) (n := r2) rfl) ?_
            refine Wp.ixl (SqL.of hr2) (nv_at t2) ?_
            repeat walk_at "W"
            have hMG := s7 _ _ hB3
            have hNG := (s6.trans s7) _ _ hN1
            have hadd : (⟨#[c1]⟩ : Str) ++ ⟨#[c2]⟩ = mkS [c1, c2] := Bk.ext (by rw [cl_mk, show cl ((⟨#[c1]⟩ : Str) ++ ⟨#[c2]⟩) = cl ⟨#[c1]⟩ ++ cl ⟨#[c2]⟩ from TL.tl_append _ _]; rfl)
            refine Wp.tyl hMG ?_
            repeat walk_at "W"
            refine Wp.addS (Nat.le_of_lt (small1000 (by show 1 + 1 ≤ 1000; decide))) ?_
            rw [hadd]
            repeat walk_at "W"
            refine ⟨.inr ⟨kvt, .inl hNG⟩, ?_⟩
            repeat walk_at "W"
            refine Wp.ixt (SqT.of (s7 _ _ hb1')) (nv_at (i := 0) (n := l0) rfl) ?_
            repeat walk_at "W"
            refine Wp.ixt (SqT.of (s7 _ _ hb1')) (nv_at (i := 1) (n := l1) rfl) ?_
            repeat walk_at "W"
            refine Wp.ixt (SqT.of (s7 _ _ hb2')) (nv_at (i := 3) (n := r3) rfl) ?_
            repeat walk_at "W"
            intro p hp
            have sp := Wp.same_upd (o := .tup (nvs (arR (l0, l1, mulN c l2' r2, r3)))) hp
            repeat walk_at "W"
            refine ⟨_, DGet.t (k := arK (l0, l1, mulN c l2' r2, r3)) (sp _ _ hNG) upd_same, ?_⟩
            rw [hSD.get, hmd]
            repeat walk_at "W"
            intro p2 hp2
            have sp2 := Wp.same_upd (o := .tup [.str (mkS [c1, c2]), .str (mkS (prS sh Sl As c1 c2).toList)]) hp2
            have s9 := (s7.trans sp).trans sp2
            repeat walk_at "W"
            have hM9 := sp2 _ _ (sp _ _ hMG)
            refine Wp.app hM9 (by rw [List.length_map, hbl, sizeLine_eq]; omega) ?_
            repeat walk_at "W"
            have hpM : p2 ≠ M2 := ne_of_none' hp2 (sp _ _ hMG)
            refine ⟨_, _, _, _, rfl, fun b' o e => ?_, bs ++ [p2], by rw [List.map_append]; exact upd_same, ?_⟩
            · rw [upd_ne (fun q => by rw [q, hM2] at e; cases e)]
              exact s9 _ _ (s6 _ _ e)
            · rw [htk, rowG_snoc, if_pos hc, ← List.append_assoc]
              refine rulesAt_app (rulesAt_keep (fun b' xs e => ?_) (hB4.same s9)) (by rw [upd_ne hpM]; exact upd_same)
              rw [upd_ne (fun q => by rw [q, hM9] at e; cases e)]
              exact e
          · repeat walk_at "W"
            exact ⟨_, _, _, _, rfl, s6, skip fun h => e2 (by rw [h.2])⟩
        · repeat walk_at "W"
          exact ⟨_, _, _, _, rfl, s6, skip fun h => e1 (by rw [h.1])⟩
      · rintro σ1 G2 ⟨x10, x11, x12, x13, rfl, s6, bs, hB3, hB4⟩
        rw [hsz, List.take_length] at hB4
        have htk : Sl.take (i + 1) = Sl.take i ++ [c1] := by rw [List.take_add_one, hx1]; rfl
        exact ⟨_, _, _, _, _, rfl, s6, bs, hB3, by rw [htk, grpL_snoc]; exact hB4⟩
    · rintro σ1 G1 ⟨x9, x10, x11, x12, x13, rfl, s5, bs, hB1, hB2⟩
      rw [hsz, List.take_length] at hB2
      repeat walk_at "W"
      have s35 : Same H3 G1 := s4.trans s5
      have hs5 : Src G1 a := by
        obtain ⟨d, s, c, e⟩ := s3
        exact ⟨d, s, c, s35 _ _ e⟩
      have hgl := grpL_len (b := bS Sl As) (e := eS Sl As) (pr := prS sh Sl As) (xs := Sl) (ys := Sl)
      have hgl2 : (grpL (bS Sl As) (eS Sl As) (prS sh Sl As) Sl Sl).length ≤ 64 := Nat.le_trans hgl (Nat.le_trans (Nat.mul_le_mul (show Sl.length ≤ 8 by omega) (show Sl.length ≤ 8 by omega)) (by decide))
      have hbl := hB2.len
      have hM2a : M2 ≠ a := fun e => by
        obtain ⟨d, s, c, e2⟩ := hs5
        rw [← e, hB1] at e2
        have e3 := sM2 
        obtain ⟨d', s', c', e4⟩ := s3
        have e5 := s4 _ _ e4
        rw [← e, hM2] at e5; cases e5
      refine ⟨a, M2, bs.map V.ref, rfl, hs5, hB1, by rw [List.length_map]; omega, fun H5 M5 zs k5 s5' hM5 hM5' hp5 => ?_⟩
      have hB5 : RulesAt H5 bs (grpL (bS Sl As) (eS Sl As) (prS sh Sl As) Sl Sl) := by
        obtain ⟨d, s, c, e⟩ := hs5
        exact rulesAt_keep (fun b' xs e2 => k5 _ _ (fun q => by rw [q, e] at e2; cases e2) e2) hB2
      obtain ⟨es, rs, rfl, hrp, hrs⟩ := rules_shuf hB5 hp5
      repeat walk_at "W"
      refine Wp.tupL (SqL.of hM5') fun RT hRT => ?_
      have sRT := Wp.same_upd (o := .tup (es.map V.ref)) hRT
      repeat walk_at "W"
      intro T hT
      have sT := Wp.same_upd (o := .tup [.str (mkS Sl), .ref RT, .ref D]) hT
      have hDa : D ≠ a := fun e => by
        obtain ⟨d, s, c, e2⟩ := s3
        rw [← e, hD] at e2; cases e2
      have k35 : ∀ b' o, b' ≠ a → H3 b' = some o → (upd (upd H5 RT (.tup (es.map V.ref))) T (.tup [.str (mkS Sl), .ref RT, .ref D])) b' = some o := fun b' o hb e => sT _ _ (sRT _ _ (k5 _ _ hb (s35 _ _ e)))
      refine q _ T (mkS Sl) As rs RT D (fun b' o hb e => k35 b' o hb (k3 _ _ hb (sPL _ _ (k2 _ _ hb (s1 _ _ e))))) upd_same ⟨by rw [cl_mk]; exact hsgd, pg1, by rw [len_mk]; omega, by rw [cl_mk]; exact grpL_bk hSn hrp, ⟨es, sT _ _ upd_same, hrs.same (sRT.trans sT)⟩, kvs, sT _ _ (sRT _ _ (k5 _ _ hDa (s5 _ _ hD1))), ?_⟩
      rw [cl_mk]
      intro x hx
      obtain ⟨b', h1, h2⟩ := harw x hx
      refine ⟨b', h1, sT _ _ (sRT _ _ (k5 _ _ (fun e => ?_) (s5 _ _ h2)))⟩
      obtain ⟨d, s, c, e2⟩ := hs5
      have := s5 _ _ h2
      rw [e, e2] at this; cases this
end
end K57
set_option Elab.async false
set_option linter.all false
set_option maxRecDepth 100000
set_option maxHeartbeats 8000000
namespace K57
open PySem PySem.Spec PyProof.Rows L2 Bk
open Wp (Keep wo_lt wo_le wo_gt wo_ge wo_eq wo_ne wo_in wo_nin wo_add wo_mul op_shlB ws_any wc_int wc_isi u65)
abbrev s_undoing_signs : Stmt := topS 43
abbrev N_undoing_signs : List Str := ["signs", "rights", "found", "sign", "other"]
theorem sc_undoing_signs : FnScope N_undoing_signs ["signs", "rights"] (defScope s_undoing_signs) := ⟨rfl, rfl, rfl, by decide +kernel, rfl, by decide +kernel, by decide +kernel⟩
abbrev s_first_places : Stmt := topS 44
abbrev N_first_places : List Str := ["signs", "rights", "undoing", "found", "heads", "sign", "place", "head"]
theorem sc_first_places : FnScope N_first_places ["signs", "rights", "undoing"] (defScope s_first_places) := ⟨rfl, rfl, rfl, by decide +kernel, rfl, by decide +kernel, by decide +kernel⟩
abbrev s_least_places : Stmt := topS 45
abbrev N_least_places : List Str := ["signs", "begins", "leads", "roots", "sign"]
theorem sc_least_places : FnScope N_least_places ["signs", "begins", "leads"] (defScope s_least_places) := ⟨rfl, rfl, rfl, by decide +kernel, rfl, by decide +kernel, by decide +kernel⟩
local macro_rules | `(tactic| walk_at "W") => `(tactic| first
  | (with_reducible first
    | refine Wp.seq ?_ | refine Wp.asg ?_ | refine Wp.ret ?_ | refine Wp.retN ?_ | refine Wp.drop ?_ | refine Wp.nxt ?_ | refine Wp.ifs ?_ | refine Wp.gname ?_
    | refine Wp.op ?_ | refine Wp.un ?_ | refine Wp.tst ?_ | refine Wp.tb' ?_ | refine Wp.tnot ?_ | refine Wp.tand ?_ | refine Wp.tor ?_ | refine Wp.tandV ?_ | refine Wp.torV ?_ | refine Wp.tnotV ?_ | refine Wp.tif ?_ | refine Wp.tchain ?_
    | refine Wp.cb ?_ | refine Wp.call ?_ | refine Wp.cons ?_ | refine Wp.nil ?_ | refine Wp.gsub ?_ | refine Wp.cst ?_ | refine Wp.i0 ?_ | refine Wp.int1 ?_ | refine Wp.eb ?_ | refine Wp.ei ?_
    | refine Wp.gnil ?_ | refine Wp.gcons ?_ | refine Wp.mko ?_ | refine Wp.bm ?_ | refine Wp.ienum ?_ | refine Wp.tru ?_ | refine Wp.u1 ?_ | refine Wp.for_ ?_ | refine Wp.lc ?_ | refine Wp.istr ?_ | refine Wp.ilist ?_ | refine Wp.itup ?_ | refine Wp.irng1 ?_ | refine Wp.irng2 ?_ | refine Wp.yes ?_ | refine Wp.es ?_ | refine Wp.er ?_ | refine Wp.sl ?_ | refine Wp.nopart ?_ | refine Wp.part ?_ | refine Wp.lst ?_ | refine Wp.tup ?_
    | refine Wp.din ?_ | refine Wp.dnotin ?_ | refine Wp.dget ?_ | refine Wp.dget2 ?_ | refine Wp.dput ?_ | refine Wp.dnewK ?_ | refine Wp.dnewT ?_ | refine Wp.bm0 ?_ | refine Wp.m1 ?_ | refine Wp.exs ?_ | refine Wp.is0 ?_ | refine Wp.isnot0 ?_ | refine Wp.fld ?_ | refine Wp.sfld ?_
    | refine Wp.par ?_ | refine Wp.parV ?_ | refine Wp.brk ?_ | refine Wp.aug ?_ | refine Wp.ipaI ?_ | refine Wp.ipsI ?_ | refine Bk.ienumS ?_ | refine Wp.make_ ?_ | refine Wp.itnn ?_ | refine Wp.ltI ?_ | refine Wp.leI ?_ | refine Wp.leS ?_ | refine Wp.inSg ?_ | refine Wp.gtI ?_ | refine Wp.geI ?_ | refine Wp.eqI ?_ | refine Wp.neI ?_ | refine Wp.addI ?_ | refine Wp.ltS ?_ | refine Wp.eqS ?_ | refine Wp.neS ?_)
  | ((with_reducible refine' Wp.var ?hv ?_); (case hv => exact rfl))
  | ((with_reducible refine' Wp.ixl ?hs ?he ?_); (case hs => first | exact SqL.of upd_same | exact SqL.of (by assumption) | assumption); (case he => exact rfl))
  | ((with_reducible refine' Wp.setl ?hs ?he ?_); (case hs => first | exact upd_same | assumption); (case he => exact rfl))
  | ((with_reducible refine' Wp.modP ?hs ?_); (case hs => first | decide | omega))
  | ((with_reducible refine' Wp.divN ?hs ?ht ?_); (case hs => first | decide | omega); (case ht => first | decide | omega))
  | ((with_reducible refine' Wp.mulM ?hs ?ht ?_); (case hs => decide); (case ht => decide))
  | ((with_reducible refine' Wp.mulL ?hs ?_); (case hs => omega))
  | ((with_reducible refine' Wp.mulR ?hs ?_); (case hs => omega))
  | ((with_reducible refine' Wp.powS ?hs ?_); (case hs => decide))
  | ((with_reducible refine' Wp.shr ?hs ?_); (case hs => decide))
  | ((with_reducible refine' Wp.szl ?hs ?_); (case hs => first | decide | (simp; done)))
  | ((with_reducible refine' Wp.lenL ?hs ?_); (case hs => first | exact SqL.of upd_same | exact SqL.of (by assumption) | assumption))
  | ((with_reducible refine' Wp.lenT ?hs ?_); (case hs => first | exact SqT.of upd_same | exact SqT.of (by assumption) | assumption))
  | ((with_reducible refine' Wp.iteC ?hs ?_); (case hs => exact rfl)) | ((with_reducible refine' Wp.iteD ?hs ?_); (case hs => exact Bool.false_ne_true))
  | ((with_reducible refine' Wp.wp ?hs ?_); (case hs => rfl))
  | (with_reducible first | refine Wp.abs ?_ | refine Wp.max2 ?_ | refine Wp.min2 ?_)
  | ((with_reducible refine' Wp.sll ?hs ?_); (case hs => first | exact SqL.of upd_same | exact SqL.of (by assumption) | assumption)))
local macro_rules | `(tactic| walk_at "KQ") => `(tactic| first
  | exact Wp.kq "int" rfl (by decide +kernel) | exact Wp.kq "bool" rfl (by decide +kernel) | exact Wp.kq "str" rfl (by decide +kernel) | exact Wp.kq "list" rfl (by decide +kernel)
  | exact Wp.kq "tuple" rfl (by decide +kernel) | exact Wp.kq "NoneType" rfl (by decide +kernel) | exact Wp.kq "dict" rfl (by decide +kernel))

abbrev Plc := Nat × Nat
theorem ixN_nat {n j : Nat} (h : j < n) : ixN n (j : Int) = some j := by
  unfold ixN
  rw [if_pos (by omega), if_pos (by omega), Int.toNat_natCast]
theorem add2 (x y : Nat) : (mkS [x]) ++ (mkS [y]) = mkS [x, y] := Bk.ext (by rw [cl_mk, show cl (mkS [x] ++ mkS [y]) = cl (mkS [x]) ++ cl (mkS [y]) from TL.tl_append _ _, cl_mk, cl_mk]; rfl)
theorem two_le {x y : Nat} : (mkS [x]).length + (mkS [y]).length ≤ sizeLine := Nat.le_of_lt (small1000 (by rw [len_mk, len_mk]; simp))
theorem str_at {S : Str} {i c : Nat} (h : S.cps[i]? = some c) : (cl S)[i]? = some c := by show S.cps.toList[i]? = _; rw [Array.getElem?_toList]; exact h
theorem tk1 {α : Type} {l : List α} {i : Nat} {x : α} (h : l[i]? = some x) : l.take (i + 1) = l.take i ++ [x] := by rw [List.take_add_one, h]; rfl
theorem fresh_take {α : Type} {l : List α} {i : Nat} {x : α} (nd : l.Nodup) (h : l[i]? = some x) : x ∉ l.take i := fun hx => by
  obtain ⟨j, hj, e⟩ := List.mem_iff_getElem.mp hx
  rw [List.length_take] at hj
  rw [List.getElem_take] at e
  obtain ⟨hi, e2⟩ := List.getElem?_eq_some_iff.mp h
  have := (List.getElem_inj (xs := l) (h₀ := by omega) (h₁ := hi) nd).mp (e.trans e2.symm)
  omega
section
variable {P : Program} {w : World} {K : PySem.W.Frag} {mg : Str → Option Value} {base : Heap}
/-- the sign that undoes each sign -/
def spUndo : Sp := fun vs H Q _ => ∃ (S : Str) (d : Addr) (b e : Nat → Plc) (pr : Nat → Nat → Option Nat) (inv : Nat → Nat), vs = [.str S, .ref d] ∧ S.length ≤ 8 ∧ Gpd (cl S) b e pr inv ∧ RtAt H d (cl S) b e pr ∧ ∀ H' u, Same H H' → UnAt H' u (cl S) inv → Q (.ref u) H'
theorem ok_undo (B : Wp.Blt mg) {f : Addr} {fd : FuncData} (F : Fun K "undoing_signs" "undoing_signs" s_undoing_signs f fd) : FnOk P w K mg base CX0 1 f fd ["signs", "rights"] spUndo := by
  refine F.ok sc_undoing_signs (fun vs H Q E h => ?_) (fun cdv A outer s H vs Q E hr h => ?_)
  · obtain ⟨S, d, b, e, pr, inv, rfl, _⟩ := h
    rfl
  · obtain ⟨S, d, b, e, pr, inv, rfl, hl, g, ⟨kvs, hd, hk⟩, q⟩ := h
    refine ⟨_, (pss_cons (ps_set (i := 2) sc_undoing_signs.nd rfl (by first | exact .inl rfl | exact .inr rfl) pe_dnewK)
  (pss_cons (ps_for PassesOwn.never rfl (pi_str (pv 0)) (pg_name (i := 3) sc_undoing_signs.nd rfl (by first | exact .inl rfl | exact .inr rfl)) (pss_cons (ps_for PassesOwn.never rfl (pi_str (pv 0)) (pg_name (i := 4) sc_undoing_signs.nd rfl (by first | exact .inl rfl | exact .inr rfl)) (pss_one (ps_if (PW.pt (pw_and (pt_cmpR (wo_eq (K := K) hr.units) (pe_dget1 (hu_of hr) (pv 1) (pe_op (wo_add (K := K)) (pv 3) (pv 4)) ⟨rfl, rfl, rfl, rfl⟩) pe_str (nomark _)) (pw_and1 (pt_cmpR (wo_eq (K := K) hr.units) (pe_dget1 (hu_of hr) (pv 1) (pe_op (wo_add (K := K)) (pv 4) (pv 3)) ⟨rfl, rfl, rfl, rfl⟩) pe_str (nomark _))))) (pss_one (ps_dput (hu_of hr) (pv 2) (pv 3) (pv 4) rfl)) pss_nil)))
  (pss_one (ps_if (pt_cmp (pc_dnotin (hu_of hr) (pv 3) (pv 2))) (pss_one ps_never) pss_nil))))
  (pss_one (ps_ret (pv 2))))), ?_⟩
    refine Wp.st (σ' := [some (.str S), some (.ref d), none, none, none]) rfl ?_
    repeat walk_at "W"
    intro U hU
    have sU := Wp.same_upd (o := .dK []) hU
    repeat walk_at "W"
    refine Wp.forIt walk_str (fun i σ1 G => ∃ x3 x4, σ1 = [some (.str S), some (.ref d), some (.ref U), x3, x4] ∧ Same H G ∧ G U = some (.dK (sgD ((cl S).take i) fun x => .str (mkS [inv x])))) ⟨_, _, rfl, sU, upd_same⟩ (fun _ _ _ _ _ => trivial) ?_ ?_
    · rintro i x σ1 G G' hi ⟨x3, x4, rfl, s1, hG⟩ ⟨rfl, c, hc, rfl⟩
      have hx := str_at hc
      have hm := List.mem_of_getElem? hx
      obtain ⟨v1, v2, v3, v4, v5⟩ := g.iv c hm
      have hfr := fresh_take g.nd hx
      have hi8 : i < 8 := by
        have : i < S.length := hi
        omega
      repeat walk_at "W"
      refine Wp.forIt walk_str (fun j σ1 G => ∃ x4, σ1 = [some (.str S), some (.ref d), some (.ref U), some (.str ⟨#[c]⟩), x4] ∧ Same H G ∧ G U = some (.dK (sgD ((cl S).take i) (fun x => .str (mkS [inv x])) ++ if inv c ∈ (cl S).take j then [(sk c, .str (mkS [inv c]))] else []))) ⟨_, rfl, s1, by simpa using hG⟩ (fun _ _ _ _ _ => trivial) ?_ ?_
      · rintro j x σ1 G2 G2' hj ⟨x4, rfl, s2, hG2⟩ ⟨rfl, y, hy, rfl⟩
        have hx2 := str_at hy
        have hm2 := List.mem_of_getElem? hx2
        have hfr2 := fresh_take g.nd hx2
        have hd2 := s2 _ _ hd
        have e1 := hk c hm y hm2
        have e2 := hk y hm2 c hm
        repeat walk_at "W"
        refine ⟨_, rfl, d, rfl, .inl ⟨kvs, .inl hd2⟩, ?_⟩
        repeat walk_at "W"
        refine Wp.addS two_le ?_
        rw [show (⟨#[c]⟩ : Str) ++ ⟨#[y]⟩ = mkS [c, y] from add2 c y]
        refine ⟨_, DGet.k (k := Sum.inr (mkS [c, y])) hd2, ?_⟩
        rw [e1]
        by_cases hy : y = inv c
        · rw [hy] at e2
          rw [if_pos v3, v5] at e2
          rw [hy, if_pos v2.symm, v4]
          repeat walk_at "W"
          refine .inl ⟨rfl, _, rfl, ?_⟩
          refine Wp.iteC (by rfl) ?_
          repeat walk_at "W"
          refine ⟨_, rfl, d, rfl, .inl ⟨kvs, .inl hd2⟩, ?_⟩
          repeat walk_at "W"
          refine Wp.addS two_le ?_
          rw [show (⟨#[inv c]⟩ : Str) ++ ⟨#[c]⟩ = mkS [inv c, c] from add2 _ c]
          have hx3 : (cl S)[j]? = some (inv c) := by rw [← hy]; exact hx2
          have hfr3 : inv c ∉ (cl S).take j := by rw [← hy]; exact hfr2
          rw [if_neg hfr3, List.append_nil] at hG2
          refine ⟨_, DGet.k (k := Sum.inr (mkS [inv c, c])) hd2, ?_⟩
          rw [e2]
          repeat walk_at "W"
          refine .inl ⟨rfl, _, rfl, ?_⟩
          refine Wp.iteC (by rfl) ?_
          repeat walk_at "W"
          refine Wp.dK_put hG2 (by rw [sgD_len, List.length_take, sizeLine_eq]; omega) ?_
          refine ⟨_, rfl, fun b' o e => ?_, ?_⟩
          · rw [upd_ne (fun q => by rw [q, hU] at e; cases e)]
            exact s2 _ _ e
          · rw [tk1 hx3, if_pos (by simp)]
            show upd G2' U (.dK (putK (sgD ((cl S).take i) fun x => .str (mkS [inv x])) (sk c) (.str (mkS [inv c])))) U = _
            rw [sgD_put hfr]
            exact upd_same
        · have hne : ∀ {o : Option V}, o = (if e c = b y then some (V.str (mkS (pr c y).toList)) else none) → o.getD .non ≠ .str "" := fun {o} ho hz => by
            rw [ho] at hz
            split at hz
            · rename_i hc
              cases hp : pr c y with
              | none => exact hy (g.iu c hm y hm2 hc hp)
              | some u =>
                rw [hp] at hz
                have h1 := congrArg cl (V.str.inj hz)
                rw [Option.toList_some, cl_mk] at h1
                cases h1
            · cases hz
          have hinv : (inv c ∈ (cl S).take (j + 1)) ↔ inv c ∈ (cl S).take j := by
            rw [tk1 hx2, List.mem_append, List.mem_singleton]
            exact ⟨fun h => h.elim id fun z => absurd z.symm hy, .inl⟩
          have hsc : ∀ o : Option V, o = (if e c = b y then some (V.str (mkS (pr c y).toList)) else none) → scal (o.getD .non) (.str "") = true := fun o ho => by
            rw [ho]
            split <;> rfl
          generalize hoo : (if e c = b y then some (V.str (mkS (pr c y).toList)) else none) = o at *
          repeat walk_at "W"
          refine .inl ⟨hsc o rfl, _, rfl, ?_⟩
          refine Wp.iteD (by simpa using hne rfl) ?_
          repeat walk_at "W"
          refine ⟨_, rfl, s2, ?_⟩
          simp only [hinv]
          exact hG2
      · rintro σ1 G2 ⟨x4, rfl, s2, hG2⟩
        rw [show S.cps.size = (cl S).length from (len_cl S).symm, List.take_length, if_pos v1] at hG2
        have hG3 : G2 U = some (.dK (sgD ((cl S).take (i + 1)) fun x => .str (mkS [inv x]))) := by rw [tk1 hx, sgD_snoc]; exact hG2
        repeat walk_at "W"
        refine Wp.dK_in hG3 ?_
        have hv : valV (sgD ((cl S).take (i + 1)) fun x => V.str (mkS [inv x])) (Sum.inr ⟨#[c]⟩) = some (.str (mkS [inv c])) := sgD_get (by rw [tk1 hx]; simp)
        rw [hv]
        refine ⟨_, rfl, Wp.iteD (by simp) ?_⟩
        repeat walk_at "W"
        exact ⟨_, _, rfl, s2, hG3⟩
    · rintro σ1 G ⟨x3, x4, rfl, s1, hG⟩
      rw [show S.cps.size = (cl S).length from (len_cl S).symm, List.take_length] at hG
      repeat walk_at "W"
      exact q G U s1 ⟨_, hG, fun x hx => sgD_get hx⟩
/-- the numbers of the places, in the order of the first signs that begin there -/
def spFirst : Sp := fun vs H Q _ => ∃ (S : Str) (d u : Addr) (b e : Nat → Plc) (pr : Nat → Nat → Option Nat) (inv : Nat → Nat), vs = [.str S, .ref d, .ref u] ∧ S.length ≤ 8 ∧ Gpd (cl S) b e pr inv ∧ RtAt H d (cl S) b e pr ∧ UnAt H u (cl S) inv ∧
  ∀ H' f, Same H H' → H' f = some (.dK (numD (cl S) fun x => pix b (cl S) (b x))) → Q (.ref f) H'
theorem ok_first (B : Wp.Blt mg) {f : Addr} {fd : FuncData} (F : Fun K "first_places" "first_places" s_first_places f fd) : FnOk P w K mg base CX0 1 f fd ["signs", "rights", "undoing"] spFirst := by
  refine F.ok sc_first_places (fun vs H Q E h => ?_) (fun cdv A outer s H vs Q E hr h => ?_)
  · obtain ⟨S, d, u, b, e, pr, inv, rfl, _⟩ := h
    rfl
  · obtain ⟨S, d, u, b, e, pr, inv, rfl, hl, g, ⟨kvs, hd, hk⟩, ⟨kus, hu, hku⟩, q⟩ := h
    refine ⟨_, (pss_cons (ps_set (i := 3) sc_first_places.nd rfl (by first | exact .inl rfl | exact .inr rfl) pe_dnewK)
  (pss_cons (ps_set (i := 4) sc_first_places.nd rfl (by first | exact .inl rfl | exact .inr rfl) (pe_lst pa_nil))
  (pss_cons (ps_for PassesOwn.never rfl (pi_str (pv 0)) (pg_name (i := 5) sc_first_places.nd rfl (by first | exact .inl rfl | exact .inr rfl)) (pss_cons (ps_for PassesOwn.never rfl (Wp.wi_enum (K := K) (by rfl) B.enumerate (pa_cons (pv 4) pa_nil)) (Wp.wg_tup (K := K) (n := 2) rfl (pgs_cons (pg_name (i := 6) sc_first_places.nd rfl (by first | exact .inl rfl | exact .inr rfl)) (pgs_cons (pg_name (i := 7) sc_first_places.nd rfl (by first | exact .inl rfl | exact .inr rfl)) pgs_nil))) (pss_one (ps_if (pt_cmp (pc_din (hu_of hr) (pe_op (wo_add (K := K)) (pe_dget (hu_of hr) (pv 2) (pv 7) (fun _ _ => rfl)) (pv 5)) (pv 1))) (pss_one (ps_dput (hu_of hr) (pv 3) (pv 5) (pv 6) rfl)) pss_nil)))
  (pss_one (ps_if (pt_cmp (pc_dnotin (hu_of hr) (pv 5) (pv 3))) (pss_cons (ps_dput (hu_of hr) (pv 3) (pv 5) (pe_callB (Wp.wc_len (K := K)) (by rfl) B.len (by decide +kernel) (pa_cons (pv 4) pa_nil)) rfl)
  (pss_one (ps_expr (Wp.wbm (K := K) (pe_bm PySem.F.plainAttrs_list PySem.F.slot_list_append PySem.F.type_list_append mt_append (pv 4) (pa_cons (pv 5) pa_nil)))))) pss_nil))))
  (pss_one (ps_ret (pv 3)))))), ?_⟩
    refine Wp.st (σ' := [some (.str S), some (.ref d), some (.ref u), none, none, none, none, none]) rfl ?_
    repeat walk_at "W"
    intro U hU
    have sU := Wp.same_upd (o := .dK []) hU
    repeat walk_at "W"
    intro L hL
    have sL := Wp.same_upd (o := .lst []) hL
    have hLU : L ≠ U := fun e => by rw [e, upd_same] at hL; cases hL
    repeat walk_at "W"
    refine Wp.forIt walk_str (fun i σ1 G => ∃ x5 x6 x7, σ1 = [some (.str S), some (.ref d), some (.ref u), some (.ref U), some (.ref L), x5, x6, x7] ∧ Same H G ∧ G U = some (.dK (numD ((cl S).take i) fun x => pix b ((cl S).take i) (b x))) ∧ ∃ hs : List Nat, G L = some (.lst (hs.map ch)) ∧ hs.map b = pls b ((cl S).take i) ∧ ∀ h ∈ hs, h ∈ cl S) ⟨_, _, _, rfl, sU.trans sL, by rw [upd_ne (Ne.symm hLU)]; exact upd_same, [], upd_same, rfl, fun _ h => nomatch h⟩ (fun _ _ _ _ _ => trivial) ?_ ?_
    · rintro i x σ1 G G' hi ⟨x5, x6, x7, rfl, s1, hG, hs, hGL, hsb, hsm⟩ ⟨rfl, c, hc, rfl⟩
      have hx := str_at hc
      have hm := List.mem_of_getElem? hx
      have hfr := fresh_take g.nd hx
      have hi8 : i < 8 := by
        have : i < S.length := hi
        omega
      have hlen : hs.length = (pls b ((cl S).take i)).length := by rw [← hsb, List.length_map]
      repeat walk_at "W"
      have hcong : ∀ l : List Nat, numD l (fun x => pix b ((cl S).take i) (b x)) = numD l (fun x => pix b ((cl S).take i) (b x)) := fun l => rfl
      have hnew : numD ((cl S).take (i + 1)) (fun x => pix b ((cl S).take (i + 1)) (b x)) = numD ((cl S).take i) (fun x => pix b ((cl S).take i) (b x)) ++ [(sk c, V.int ((if b c ∈ pls b ((cl S).take i) then pix b ((cl S).take i) (b c) else hs.length : Nat) : Int))] := by
        rw [tk1 hx, numD, sgD_snoc]
        congr 1
        · exact sgD_congr fun x hx' => by rw [pix_old (mem_pls.mpr ⟨x, hx', rfl⟩)]
        · by_cases hin : b c ∈ pls b ((cl S).take i)
          · rw [if_pos hin, pix_old hin]
          · rw [if_neg hin, pix_new hin, hlen]
      refine ⟨L, hs.map ch, rfl, Wp.enumU (H0 := upd (fun _ => none) L (.lst (hs.map ch))) (.inl (SqL.of upd_same)) (fun a o e => ?_) (fun p σ1 G2 => ∃ x6 x7, σ1 = [some (.str S), some (.ref d), some (.ref u), some (.ref U), some (.ref L), some (.str ⟨#[c]⟩), x6, x7] ∧ Same H G2 ∧ G2 L = some (.lst (hs.map ch)) ∧ G2 U = some (.dK (numD ((cl S).take i) (fun x => pix b ((cl S).take i) (b x)) ++ if b c ∈ (pls b ((cl S).take i)).take p then [(sk c, V.int (pix b ((cl S).take i) (b c) : Nat))] else []))) ⟨_, _, rfl, s1, hGL, by simpa using hG⟩ (fun p σ1 G2 ⟨_, _, _, _, h, _⟩ a o e => ?_) ?_ ?_⟩
      · by_cases q : a = L
        · subst q; rw [upd_same] at e; rw [← e]; exact hGL
        · rw [upd_ne q] at e; cases e
      · by_cases q : a = L
        · subst q; rw [upd_same] at e; rw [← e]; exact h
        · rw [upd_ne q] at e; cases e
      · rintro p x σ1 G2 T hp ⟨x6, x7, rfl, s2, hG2L, hG2⟩ hT
        rw [List.getElem?_map] at hp
        obtain ⟨h, hh, rfl⟩ := Option.map_eq_some_iff.mp hp
        have smT := Wp.same_upd (o := .tup [.int (p : Nat), ch h]) hT
        have hhm := hsm h (List.mem_of_getElem? hh)
        obtain ⟨v1, v2, v3, v4, v5⟩ := g.iv h hhm
        have hpb : (pls b ((cl S).take i))[p]? = some (b h) := by rw [← hsb, List.getElem?_map, hh]; rfl
        have hp8 : p < (pls b ((cl S).take i)).length := (List.getElem?_eq_some_iff.mp hpb).1
        have hpl := pls_len (b := b) (l := (cl S).take i)
        rw [List.length_take] at hpl
        have e1 := hk (inv h) v1 c hm
        rw [v3] at e1
        have hin : (b c ∈ (pls b ((cl S).take i)).take (p + 1)) ↔ (b c ∈ (pls b ((cl S).take i)).take p ∨ b h = b c) := by
          rw [tk1 hpb, List.mem_append, List.mem_singleton]
          exact ⟨fun h => h.imp id Eq.symm, fun h => h.imp id Eq.symm⟩
        refine Wp.gt (SqT.of upd_same) rfl ?_
        repeat walk_at "W"
        refine Wp.dK_get (smT _ _ (s2 _ _ hu)) (hku h hhm) ?_
        repeat walk_at "W"
        refine Wp.addS two_le ?_
        rw [show mkS [inv h] ++ (⟨#[c]⟩ : Str) = mkS [inv h, c] from add2 _ c]
        repeat walk_at "W"
        refine Wp.dK_in (smT _ _ (s2 _ _ hd)) ?_
        rw [e1]
        have hG2' := smT _ _ hG2
        have hnotp : b h = b c → b c ∉ (pls b ((cl S).take i)).take p := fun hbc hin2 => by
          obtain ⟨j, hj, e2⟩ := List.mem_iff_getElem.mp hin2
          rw [List.length_take] at hj
          rw [List.getElem_take] at e2
          obtain ⟨q1, q2⟩ := List.getElem?_eq_some_iff.mp hpb
          have := (List.getElem_inj (xs := pls b ((cl S).take i)) (h₀ := by omega) (h₁ := q1) nodup_pls).mp (e2.trans (hbc.symm.trans q2.symm))
          omega
        by_cases hbc : b h = b c
        · rw [if_pos hbc]
          refine ⟨_, rfl, Wp.iteC (by rfl) ?_⟩
          rw [if_neg (hnotp hbc), List.append_nil] at hG2'
          repeat walk_at "W"
          refine Wp.dK_put hG2' (by rw [sgD_len, List.length_take, sizeLine_eq]; omega) ?_
          refine ⟨_, _, rfl, fun b' o e => ?_, ?_, ?_⟩
          · rw [upd_ne (fun q => by rw [q, hU] at e; cases e)]
            exact smT _ _ (s2 _ _ e)
          · rw [upd_ne hLU]
            exact smT _ _ hG2L
          · have hpx : pix b ((cl S).take i) (b c) = p := by rw [← hbc]; exact pix_get hpb
            rw [if_pos (hin.mpr (.inr hbc)), hpx]
            show upd _ U (.dK (putK (sgD ((cl S).take i) _) (sk c) (.int (p : Nat)))) U = _
            rw [sgD_put hfr]
            exact upd_same
        · rw [if_neg hbc]
          refine ⟨_, rfl, Wp.iteD (by simp) ?_⟩
          repeat walk_at "W"
          refine ⟨_, _, rfl, s2.trans smT, smT _ _ hG2L, ?_⟩
          have hin3 : (b c ∈ (pls b ((cl S).take i)).take (p + 1)) ↔ b c ∈ (pls b ((cl S).take i)).take p := hin.trans ⟨fun z => z.elim id fun z => absurd z hbc, .inl⟩
          simp only [hin3]
          exact hG2'
      · rintro σ1 G2 ⟨x6, x7, rfl, s2, hG2L, hG2⟩
        rw [List.length_map, hlen, List.take_length] at hG2
        repeat walk_at "W"
        refine Wp.dK_in hG2 ?_
        by_cases hin : b c ∈ pls b ((cl S).take i)
        · rw [if_pos hin] at hG2 hnew ⊢
          have hv : valV (numD ((cl S).take i) (fun x => pix b ((cl S).take i) (b x)) ++ [(sk c, V.int (pix b ((cl S).take i) (b c) : Nat))]) (Sum.inr ⟨#[c]⟩) = some (.int (pix b ((cl S).take i) (b c) : Nat)) := by
            rw [valV_snoc _ _ _ _ (sgD_none hfr), if_pos (show (Sum.inr ⟨#[c]⟩ : Key) = sk c from rfl)]
          rw [hv]
          refine ⟨_, rfl, Wp.iteD (by simp) ?_⟩
          repeat walk_at "W"
          refine ⟨_, _, _, rfl, s2, by rw [hnew]; exact hG2, hs, hG2L, ?_, hsm⟩
          rw [tk1 hx, pls_snoc, if_pos hin]
          exact hsb
        · rw [if_neg hin, List.append_nil] at hG2 ⊢
          rw [if_neg hin] at hnew
          have hv : valV (numD ((cl S).take i) (fun x => pix b ((cl S).take i) (b x))) (Sum.inr ⟨#[c]⟩) = none := sgD_none hfr
          rw [hv]
          refine ⟨_, rfl, Wp.iteC (by rfl) ?_⟩
          repeat walk_at "W"
          refine Wp.dK_put hG2 (by rw [sgD_len, List.length_take, sizeLine_eq]; omega) ?_
          repeat walk_at "W"
          have hpl := pls_len (b := b) (l := (cl S).take i)
          rw [List.length_take] at hpl
          refine Wp.tyl (by rw [upd_ne hLU]; exact hG2L) ?_
          repeat walk_at "W"
          refine Wp.app (by rw [upd_ne hLU]; exact hG2L) (by rw [List.length_map, hlen, sizeLine_eq]; omega) ?_
          repeat walk_at "W"
          refine ⟨_, _, _, rfl, fun b' o e => ?_, ?_, hs ++ [c], by rw [List.map_append]; exact upd_same, ?_, fun h hh => ?_⟩
          · rw [upd_ne (fun q => by
              have := sU _ _ e
              rw [q, hL] at this; cases this), upd_ne (fun q => by rw [q, hU] at e; cases e)]
            exact s2 _ _ e
          · rw [upd_ne (Ne.symm hLU), hnew, upd_same, List.length_map]
            show some (HO.dK (putK (sgD ((cl S).take i) _) (sk c) (.int (hs.length : Nat)))) = _
            rw [sgD_put hfr]
          · rw [tk1 hx, pls_snoc, if_neg hin, List.map_append, hsb]
            rfl
          · rcases List.mem_append.mp hh with z | z
            · exact hsm h z
            · rw [List.mem_singleton.mp z]; exact hm
    · rintro σ1 G ⟨x5, x6, x7, rfl, s1, hG, hs, hGL, hsb, hsm⟩
      rw [show S.cps.size = (cl S).length from (len_cl S).symm, List.take_length] at hG
      repeat walk_at "W"
      exact q G U s1 hG
/-- the least numbers that places lead to -/
def spLeastP : Sp := fun vs H Q _ => ∃ (S : Str) (d1 d2 : Addr) (fb fe : Nat → Nat) (n : Nat), vs = [.str S, .ref d1, .ref d2] ∧ S.length ≤ 8 ∧ H d1 = some (.dK (numD (cl S) fb)) ∧ H d2 = some (.dK (numD (cl S) fe)) ∧ (∀ x ∈ cl S, fb x < n ∧ fe x < n) ∧ (∃ x ∈ cl S, fb x + 1 = n) ∧ n ≤ 8 ∧
  ∀ H' L rs, Same H H' → H' L = some (.lst (nvs rs)) → Roots (cl S) n fb fe rs → Q (.ref L) H'
theorem ok_leastP (B : Wp.Blt mg) {f : Addr} {fd : FuncData} (F : Fun K "least_places" "least_places" s_least_places f fd) : FnOk P w K mg base CX0 1 f fd ["signs", "begins", "leads"] spLeastP := by
  refine F.ok sc_least_places (fun vs H Q E h => ?_) (fun cdv A outer s H vs Q E hr h => ?_)
  · obtain ⟨S, d1, d2, fb, fe, n, rfl, _⟩ := h
    rfl
  · obtain ⟨S, d1, d2, fb, fe, n, rfl, hl, h1, h2, hlt, ⟨x0, hx0, hn0⟩, hn8, q⟩ := h
    refine ⟨_, (pss_cons (ps_set (i := 3) sc_least_places.nd rfl (by first | exact .inl rfl | exact .inr rfl) (pe_listRg (by rfl) (by rfl) B.list (prg_1 (by rfl) B.range (pe_op (wo_add (K := K)) (Bk.pe_maxV (by rfl) (by rfl) B.max (pv 1)) pe_int))))
  (pss_cons (ps_for PassesOwn.never rfl (pi_str (pv 0)) (pg_name (i := 4) sc_least_places.nd rfl (by first | exact .inl rfl | exact .inr rfl)) (pss_one (ps_asg (pe_callB (Wp.wc_min rfl) (by rfl) B.min (by decide +kernel) (pa_cons (pe_ix (Wp.wx_seq (K := K)) (pv 3) (pe_dget (hu_of hr) (pv 1) (pv 4) (fun _ _ => rfl)) (fun _ _ => rfl)) (pa_cons (pe_dget (hu_of hr) (pv 2) (pv 4) (fun _ _ => rfl)) pa_nil))) (pg_sub (pv 3) (pe_dget (hu_of hr) (pv 1) (pv 4) (fun _ _ => rfl)) set_list))))
  (pss_one (ps_ret (pv 3))))), ?_⟩
    refine Wp.st (σ' := [some (.str S), some (.ref d1), some (.ref d2), none, none]) rfl ?_
    repeat walk_at "W"
    refine ⟨_, rfl, d1, numD (cl S) fb, (cl S).map fun x => ((fb x : Nat) : Int), rfl, h1, by unfold numD sgD; rw [List.map_map, List.map_map]; rfl, by rw [List.length_map]; exact List.length_pos_of_mem hx0, fun m hm hle => ?_⟩
    have hmn : m + 1 = (n : Nat) := by
      obtain ⟨x, hx, rfl⟩ := List.mem_map.mp hm
      have h3 := (hlt x hx).1
      have h4 := hle _ (List.mem_map.mpr ⟨x0, hx0, rfl⟩)
      omega
    repeat walk_at "W"
    rw [hmn]
    refine ⟨RgOk.of_le (by omega) (by omega) (by omega) (by omega), fun L hL => ?_⟩
    have hrg : rgV 0 (n : Nat) = nvs (List.range n) := by
      unfold rgV
      rw [Int.sub_zero, Int.toNat_natCast]
      exact List.map_congr_left fun i _ => by rw [Int.zero_add]
    rw [hrg]
    have sL := Wp.same_upd (o := .lst (nvs (List.range n))) hL
    repeat walk_at "W"
    refine Wp.forIt walk_str (fun i σ1 G => ∃ x4, σ1 = [some (.str S), some (.ref d1), some (.ref d2), some (.ref L), x4] ∧ Same H G ∧ ∃ rs, G L = some (.lst (nvs rs)) ∧ Roots ((cl S).take i) n fb fe rs) ⟨_, rfl, sL, _, upd_same, Roots.start⟩ (fun _ _ _ _ _ => trivial) ?_ ?_
    · rintro i x σ1 G G' hi ⟨x4, rfl, s1, rs, hG, hR⟩ ⟨rfl, c, hc, rfl⟩
      have hx := str_at hc
      have hm := List.mem_of_getElem? hx
      obtain ⟨l1, l2⟩ := hlt c hm
      obtain ⟨r, hr1⟩ : ∃ r, rs[fb c]? = some r := ⟨_, List.getElem?_eq_getElem (by rw [hR.len]; exact l1)⟩
      have hv1 : valV (numD (cl S) fb) (Sum.inr ⟨#[c]⟩) = some (.int (fb c : Nat)) := sgD_get hm
      have hv2 : valV (numD (cl S) fe) (Sum.inr ⟨#[c]⟩) = some (.int (fe c : Nat)) := sgD_get hm
      repeat walk_at "W"
      refine Wp.dK_get (s1 _ _ h1) hv1 ?_
      refine Wp.ixl (SqL.of hG) (nv_at hr1) ?_
      repeat walk_at "W"
      refine Wp.dK_get (s1 _ _ h2) hv2 ?_
      repeat walk_at "W"
      refine Wp.dK_get (s1 _ _ h1) hv1 ?_
      refine Wp.setl (j := fb c) hG (by rw [List.length_map, hR.len]; exact ixN_nat l1) ?_
      have hset : (nvs rs).set (fb c) (.int (if ((fe c : Nat) : Int) < (r : Nat) then ((fe c : Nat) : Int) else (r : Nat))) = nvs (rs.set (fb c) (if fe c < r then fe c else r)) := by
        rw [nvs, nvs, List.map_set]
        congr 2
        by_cases z : fe c < r
        · rw [if_pos z, if_pos (by omega)]
        · rw [if_neg z, if_neg (by omega)]
      rw [hset]
      refine ⟨_, rfl, fun b' o e => ?_, _, upd_same, by rw [tk1 hx]; exact hR.step hr1⟩
      rw [upd_ne (fun q => by rw [q, hL] at e; cases e)]
      exact s1 _ _ e
    · rintro σ1 G ⟨x4, rfl, s1, rs, hG, hR⟩
      rw [show S.cps.size = (cl S).length from (len_cl S).symm, List.take_length] at hR
      repeat walk_at "W"
      exact q G L rs s1 hG hR
end
end K57
set_option Elab.async false
set_option linter.all false
set_option maxRecDepth 100000
set_option maxHeartbeats 8000000
namespace K57
open PySem PySem.Spec PyProof.Rows L2 Bk
open Wp (Keep wo_lt wo_le wo_gt wo_ge wo_eq wo_ne wo_in wo_nin wo_add wo_mul op_shlB ws_any wc_int wc_isi u65)
abbrev s_Arrows___init__ : Stmt := inClass (topS 42) 0
abbrev N_Arrows___init__ : List Str := ["self", "book", "rights", "undoing", "sign"]
theorem sc_Arrows___init__ : FnScope N_Arrows___init__ ["self", "book", "rights", "undoing"] (defScope s_Arrows___init__) := ⟨rfl, rfl, rfl, by decide +kernel, rfl, by decide +kernel, by decide +kernel⟩
local macro_rules | `(tactic| walk_at "W") => `(tactic| first
  | (with_reducible first
    | refine Wp.seq ?_ | refine Wp.asg ?_ | refine Wp.ret ?_ | refine Wp.retN ?_ | refine Wp.drop ?_ | refine Wp.nxt ?_ | refine Wp.ifs ?_ | refine Wp.gname ?_
    | refine Wp.op ?_ | refine Wp.un ?_ | refine Wp.tst ?_ | refine Wp.tb' ?_ | refine Wp.tnot ?_ | refine Wp.tand ?_ | refine Wp.tor ?_ | refine Wp.tandV ?_ | refine Wp.torV ?_ | refine Wp.tnotV ?_ | refine Wp.tif ?_ | refine Wp.tchain ?_
    | refine Wp.cb ?_ | refine Wp.call ?_ | refine Wp.cons ?_ | refine Wp.nil ?_ | refine Wp.gsub ?_ | refine Wp.cst ?_ | refine Wp.i0 ?_ | refine Wp.int1 ?_ | refine Wp.eb ?_ | refine Wp.ei ?_
    | refine Wp.gnil ?_ | refine Wp.gcons ?_ | refine Wp.mko ?_ | refine Wp.bm ?_ | refine Wp.ienum ?_ | refine Wp.tru ?_ | refine Wp.u1 ?_ | refine Wp.for_ ?_ | refine Wp.lc ?_ | refine Wp.istr ?_ | refine Wp.ilist ?_ | refine Wp.itup ?_ | refine Wp.irng1 ?_ | refine Wp.irng2 ?_ | refine Wp.yes ?_ | refine Wp.es ?_ | refine Wp.er ?_ | refine Wp.sl ?_ | refine Wp.nopart ?_ | refine Wp.part ?_ | refine Wp.lst ?_ | refine Wp.tup ?_
    | refine Wp.din ?_ | refine Wp.dnotin ?_ | refine Wp.dget ?_ | refine Wp.dget2 ?_ | refine Wp.dput ?_ | refine Wp.dnewK ?_ | refine Wp.dnewT ?_ | refine Wp.bm0 ?_ | refine Wp.m1 ?_ | refine Wp.exs ?_ | refine Wp.is0 ?_ | refine Wp.isnot0 ?_ | refine Wp.fld ?_ | refine Wp.sfld ?_
    | refine Wp.par ?_ | refine Wp.parV ?_ | refine Wp.brk ?_ | refine Wp.aug ?_ | refine Wp.ipaI ?_ | refine Wp.ipsI ?_ | refine Bk.ienumS ?_ | refine Wp.make_ ?_ | refine Wp.itnn ?_ | refine Wp.ltI ?_ | refine Wp.leI ?_ | refine Wp.leS ?_ | refine Wp.inSg ?_ | refine Wp.gtI ?_ | refine Wp.geI ?_ | refine Wp.eqI ?_ | refine Wp.neI ?_ | refine Wp.addI ?_ | refine Wp.ltS ?_ | refine Wp.eqS ?_ | refine Wp.neS ?_)
  | ((with_reducible refine' Wp.var ?hv ?_); (case hv => exact rfl))
  | ((with_reducible refine' Wp.ixl ?hs ?he ?_); (case hs => first | exact SqL.of upd_same | exact SqL.of (by assumption) | assumption); (case he => exact rfl))
  | ((with_reducible refine' Wp.setl ?hs ?he ?_); (case hs => first | exact upd_same | assumption); (case he => exact rfl))
  | ((with_reducible refine' Wp.modP ?hs ?_); (case hs => first | decide | omega))
  | ((with_reducible refine' Wp.divN ?hs ?ht ?_); (case hs => first | decide | omega); (case ht => first | decide | omega))
  | ((with_reducible refine' Wp.mulM ?hs ?ht ?_); (case hs => decide); (case ht => decide))
  | ((with_reducible refine' Wp.mulL ?hs ?_); (case hs => omega))
  | ((with_reducible refine' Wp.mulR ?hs ?_); (case hs => omega))
  | ((with_reducible refine' Wp.powS ?hs ?_); (case hs => decide))
  | ((with_reducible refine' Wp.shr ?hs ?_); (case hs => decide))
  | ((with_reducible refine' Wp.szl ?hs ?_); (case hs => first | decide | (simp; done)))
  | ((with_reducible refine' Wp.lenL ?hs ?_); (case hs => first | exact SqL.of upd_same | exact SqL.of (by assumption) | assumption))
  | ((with_reducible refine' Wp.lenT ?hs ?_); (case hs => first | exact SqT.of upd_same | exact SqT.of (by assumption) | assumption))
  | ((with_reducible refine' Wp.iteC ?hs ?_); (case hs => exact rfl)) | ((with_reducible refine' Wp.iteD ?hs ?_); (case hs => exact Bool.false_ne_true))
  | ((with_reducible refine' Wp.wp ?hs ?_); (case hs => rfl))
  | (with_reducible first | refine Wp.abs ?_ | refine Wp.max2 ?_ | refine Wp.min2 ?_)
  | ((with_reducible refine' Wp.sll ?hs ?_); (case hs => first | exact SqL.of upd_same | exact SqL.of (by assumption) | assumption)))
local macro_rules | `(tactic| walk_at "KQ") => `(tactic| first
  | exact Wp.kq "int" rfl (by decide +kernel) | exact Wp.kq "bool" rfl (by decide +kernel) | exact Wp.kq "str" rfl (by decide +kernel) | exact Wp.kq "list" rfl (by decide +kernel)
  | exact Wp.kq "tuple" rfl (by decide +kernel) | exact Wp.kq "NoneType" rfl (by decide +kernel) | exact Wp.kq "dict" rfl (by decide +kernel))

/-- the class of arrows: its fields are plain -/
structure ArC (K : PySem.W.Frag) (C : Addr) : Prop where
  cl : Cls K C
  n1 : NoAttr K C "book"
  n2 : NoAttr K C "rights"
  n3 : NoAttr K C "undoing"
  n4 : NoAttr K C "begins"
  n5 : NoAttr K C "leads"
  n6 : NoAttr K C "roots"
def arF (p d u f l r : Addr) : List (Str × V) := putF "roots" (.ref r) (putF "leads" (.ref l) (putF "begins" (.ref f) (putF "undoing" (.ref u) (putF "rights" (.ref d) (putF "book" (.ref p) [])))))
theorem arF_leads (p d u f l r : Addr) : (arF p d u f l r).lookup ("leads" : Str) = some (.ref l) := by
  unfold arF
  rw [lookup_putF, if_neg (by decide +kernel), lookup_putF, if_pos rfl]
theorem arF_begins (p d u f l r : Addr) : (arF p d u f l r).lookup ("begins" : Str) = some (.ref f) := by
  unfold arF
  rw [lookup_putF, if_neg (by decide +kernel), lookup_putF, if_neg (by decide +kernel), lookup_putF, if_pos rfl]
theorem arF_undoing (p d u f l r : Addr) : (arF p d u f l r).lookup ("undoing" : Str) = some (.ref u) := by
  unfold arF
  rw [lookup_putF, if_neg (by decide +kernel), lookup_putF, if_neg (by decide +kernel), lookup_putF, if_neg (by decide +kernel), lookup_putF, if_pos rfl]
theorem arF_rights (p d u f l r : Addr) : (arF p d u f l r).lookup ("rights" : Str) = some (.ref d) := by
  unfold arF
  rw [lookup_putF, if_neg (by decide +kernel), lookup_putF, if_neg (by decide +kernel), lookup_putF, if_neg (by decide +kernel), lookup_putF, if_neg (by decide +kernel), lookup_putF, if_pos rfl]
theorem arF_book (p d u f l r : Addr) : (arF p d u f l r).lookup ("book" : Str) = some (.ref p) := by
  unfold arF
  rw [lookup_putF, if_neg (by decide +kernel), lookup_putF, if_neg (by decide +kernel), lookup_putF, if_neg (by decide +kernel), lookup_putF, if_neg (by decide +kernel), lookup_putF, if_neg (by decide +kernel), lookup_putF, if_pos rfl]
/-- the arrows of a group book -/
structure ArAt (C CA : Addr) (H : Hp) (x : Addr) (S : Str) (rs : List (Str × Str)) (b e : Nat → Plc) (pr : Nat → Nat → Option Nat) (inv : Nat → Nat) : Prop where
  ex : ∃ dx p d u f l r ro, H x = some (.ins CA dx (arF p d u f l r)) ∧ BookAt C H p S rs ∧ RtAt H d (cl S) b e pr ∧ UnAt H u (cl S) inv ∧ H f = some (.dK (numD (cl S) fun x => pix b (cl S) (b x))) ∧
    H l = some (.dK (numD (cl S) fun x => pix b (cl S) (e x))) ∧ H r = some (.lst (nvs ro)) ∧ Roots (cl S) (pls b (cl S)).length (fun x => pix b (cl S) (b x)) (fun x => pix b (cl S) (e x)) ro
theorem ArAt.same {C CA : Addr} {H H' : Hp} {x : Addr} {S : Str} {rs : List (Str × Str)} {b e : Nat → Plc} {pr : Nat → Nat → Option Nat} {inv : Nat → Nat} (s : Same H H') (h : ArAt C CA H x S rs b e pr inv) : ArAt C CA H' x S rs b e pr inv := by
  obtain ⟨dx, p, d, u, f, l, r, ro, h1, h2, h3, h4, h5, h6, h7, h8⟩ := h.ex
  exact ⟨dx, p, d, u, f, l, r, ro, s _ _ h1, h2.same s, h3.same s, h4.same s, s _ _ h5, s _ _ h6, s _ _ h7, h8⟩
theorem bkF_ne (sg : Str) (t d : Addr) (q : V) : bkF sg t d q ≠ [] := fun e => by
  have := bkF_signs sg t d q
  rw [e] at this; cases this
theorem BookAt.keepX {C CA : Addr} {H H' : Hp} {x p dx : Addr} {sg : Str} {ps : List (Str × Str)} (hx : H x = some (.ins CA dx [])) (k : Keep x H H') (h : BookAt C H p sg ps) : BookAt C H' p sg ps := by
  obtain ⟨dx', t, bs, d, q, h1, h2, h3, h4, h5⟩ := h.ex
  have tp : ∀ b xs, H b = some (.tup xs) → H' b = some (.tup xs) := fun b xs e => k b _ (ne_of e hx (by intro z; cases z)) e
  obtain ⟨kvs, g1, g2, g3⟩ := h4.ex
  refine ⟨⟨dx', t, bs, d, q, k p _ (fun e => ?_) h1, tp _ _ h2, rulesAt_keep tp h3, ⟨kvs, k d _ (ne_of g1 hx (by intro z; cases z)) g1, g2, fun x => (g3 x).same tp⟩, h5⟩, h.g, h.l⟩
  rw [e, hx] at h1
  injection h1 with h1
  injection h1 with _ _ h1
  exact bkF_ne _ _ _ _ h1.symm
theorem RtAt.keepX {CA : Addr} {H H' : Hp} {x dx d : Addr} {sg : List Nat} {b e : Nat → Plc} {pr : Nat → Nat → Option Nat} (hx : H x = some (.ins CA dx [])) (k : Keep x H H') (h : RtAt H d sg b e pr) : RtAt H' d sg b e pr := by
  obtain ⟨kvs, h1, h2⟩ := h
  exact ⟨kvs, k _ _ (ne_of h1 hx (by intro z; cases z)) h1, h2⟩
theorem UnAt.keepX {CA : Addr} {H H' : Hp} {x dx u : Addr} {sg : List Nat} {inv : Nat → Nat} (hx : H x = some (.ins CA dx [])) (k : Keep x H H') (h : UnAt H u sg inv) : UnAt H' u sg inv := by
  obtain ⟨kvs, h1, h2⟩ := h
  exact ⟨kvs, k _ _ (ne_of h1 hx (by intro z; cases z)) h1, h2⟩
section
variable {P : Program} {w : World} {K : PySem.W.Frag} {mg : Str → Option Value} {base : Heap}
/-- Arrows(book, rights, undoing) -/
def spArI (C CA : Addr) : Sp := fun vs H Q _ => ∃ (x dx p d u : Addr) (S : Str) (rs : List (Str × Str)) (b e : Nat → Plc) (pr : Nat → Nat → Option Nat) (inv : Nat → Nat), vs = [.ref x, .ref p, .ref d, .ref u] ∧ H x = some (.ins CA dx []) ∧ S.length ≤ 8 ∧ 0 < S.length ∧ BookAt C H p S rs ∧ Gpd (cl S) b e pr inv ∧ RtAt H d (cl S) b e pr ∧ UnAt H u (cl S) inv ∧
  ∀ H', Keep x H H' → ArAt C CA H' x S rs b e pr inv → Q .non H'
theorem ok_arI (B : Wp.Blt mg) {f fF fL C CA : Addr} {fd fdF fdL : FuncData} (F : Fun K "__init__" "Arrows.__init__" s_Arrows___init__ f fd) (TB : BkC K C) (T : ArC K CA)
    (D_first_places : Wp.Dh K mg "first_places" fF fdF ["signs", "rights", "undoing"]) (G_first_places : FnOk P w K mg base CX0 1 fF fdF ["signs", "rights", "undoing"] spFirst)
    (D_least_places : Wp.Dh K mg "least_places" fL fdL ["signs", "begins", "leads"]) (G_least_places : FnOk P w K mg base CX0 1 fL fdL ["signs", "begins", "leads"] spLeastP) : FnOk P w K mg base CX0 2 f fd ["self", "book", "rights", "undoing"] (spArI C CA) := by
  refine F.ok sc_Arrows___init__ (fun vs H Q E h => ?_) (fun cdv A outer s H vs Q E hr h => ?_)
  · obtain ⟨x, dx, p, d, u, S, rs, b, e, pr, inv, rfl, _⟩ := h
    rfl
  · obtain ⟨x, dx, p, d, u, S, rs, b, e, pr, inv, rfl, hx, hl, hl0, hB, g, hR, hU, q⟩ := h
    refine ⟨_, (pss_cons (Wp.wsfld (K := K) (ps_fld (pv 0) (pv 1) rfl))
  (pss_cons (Wp.wsfld (K := K) (ps_fld (pv 0) (pv 2) rfl))
  (pss_cons (Wp.wsfld (K := K) (ps_fld (pv 0) (pv 3) rfl))
  (pss_cons (Wp.wsfld (K := K) (ps_fld (pv 0) (pe_call G_first_places (hr.mono (by decide)) (by rfl) D_first_places.g D_first_places.k D_first_places.b .nil pass0 (pa_cons (Wp.wfld (K := K) (pe_fld (pv 1) rfl)) (pa_cons (pv 2) (pa_cons (pv 3) pa_nil)))) rfl))
  (pss_cons (Wp.wsfld (K := K) (ps_fld (pv 0) (pe_dc (own := [("sign", 4)]) (g := gName 4) (by rfl) sc_Arrows___init__.nd (pi_str (Wp.wfld (K := K) (pe_fld (pv 1) rfl))) (blkOk_by (own := [("sign", 4)]) (N := N_Arrows___init__) (sc := defScope s_Arrows___init__) (by decide +kernel)) (fun _ _ _ _ _ => pg_name (i := 4) sc_Arrows___init__.nd rfl (Or.inl rfl)) (fun _ _ _ _ _ => pts_nil) (fun _ _ _ _ _ => (pv 4)) (fun _ _ _ _ _ => (pe_dget (hu_of hr) (Wp.wfld (K := K) (pe_fld (pv 0) rfl)) (pe_dget (hu_of hr) (pv 3) (pv 4) (fun _ _ => rfl)) (fun _ _ => rfl)))) rfl))
  (pss_one (Wp.wsfld (K := K) (ps_fld (pv 0) (pe_call G_least_places (hr.mono (by decide)) (by rfl) D_least_places.g D_least_places.k D_least_places.b .nil pass0 (pa_cons (Wp.wfld (K := K) (pe_fld (pv 1) rfl)) (pa_cons (Wp.wfld (K := K) (pe_fld (pv 0) rfl)) (pa_cons (Wp.wfld (K := K) (pe_fld (pv 0) rfl)) pa_nil)))) rfl)))))))), ?_⟩
    refine Wp.st (σ' := [some (.ref x), some (.ref p), some (.ref d), some (.ref u), none]) rfl ?_
    have l1 := length_putF "book" (.ref p) []
    have l2 := length_putF "rights" (.ref d) (putF "book" (.ref p) [])
    have l3 := length_putF "undoing" (.ref u) (putF "rights" (.ref d) (putF "book" (.ref p) []))
    have big : (8 : Nat) < sizeLine := by decide
    have l0 : ([] : List (Str × V)).length = 0 := rfl
    repeat walk_at "W"
    refine ⟨x, CA, dx, [], rfl, hx, T.cl, T.n1, by decide, ?_⟩
    repeat walk_at "W"
    refine ⟨x, CA, dx, _, rfl, upd_same, T.cl, T.n2, by omega, ?_⟩
    repeat walk_at "W"
    refine ⟨x, CA, dx, _, rfl, upd_same, T.cl, T.n3, by omega, ?_⟩
    repeat walk_at "W"
    have k3 : Keep x H (upd (upd (upd H x (.ins CA dx (putF "book" (.ref p) []))) x (.ins CA dx (putF "rights" (.ref d) (putF "book" (.ref p) [])))) x (.ins CA dx (putF "undoing" (.ref u) (putF "rights" (.ref d) (putF "book" (.ref p) []))))) := ((Keep.upd x H _).trans (Keep.upd x _ _)).trans (Keep.upd x _ _)
    refine bk_signs TB (hB.keepX hx k3) ?_
    repeat walk_at "W"
    refine ⟨S, d, u, b, e, pr, inv, rfl, hl, g, RtAt.keepX hx k3 hR, UnAt.keepX hx k3 hU, fun H4 f4 s4 hf => ?_⟩
    have hx4 := s4 x _ upd_same
    have l4 := length_putF "begins" (.ref f4) (putF "undoing" (.ref u) (putF "rights" (.ref d) (putF "book" (.ref p) [])))
    have k4 : Keep x H H4 := fun b' o hb e => s4 _ _ (k3 b' o hb e)
    have hf4x : f4 ≠ x := ne_of hf hx4 (by intro z; cases z)
    repeat walk_at "W"
    refine ⟨x, CA, dx, _, rfl, hx4, T.cl, T.n4, by omega, ?_⟩
    generalize hH5 : upd H4 x (.ins CA dx (putF "begins" (.ref f4) (putF "undoing" (.ref u) (putF "rights" (.ref d) (putF "book" (.ref p) []))))) = H5
    have hx5 : H5 x = some (.ins CA dx (putF "begins" (.ref f4) (putF "undoing" (.ref u) (putF "rights" (.ref d) (putF "book" (.ref p) []))))) := by rw [← hH5]; exact upd_same
    have k5 : Keep x H H5 := fun b' o hb e => by rw [← hH5, upd_ne hb]; exact k4 _ _ hb e
    have hf5 : H5 f4 = some (.dK (numD (cl S) fun x => pix b (cl S) (b x))) := by rw [← hH5, upd_ne hf4x]; exact hf
    repeat walk_at "W"
    refine Wp.dc ?_
    repeat walk_at "W"
    refine bk_signs TB (hB.keepX hx k5) ?_
    repeat walk_at "W"
    intro Ld hLd
    have sLd := Wp.same_upd (o := .dK []) hLd
    have hfb : (putF "begins" (.ref f4) (putF "undoing" (.ref u) (putF "rights" (.ref d) (putF "book" (.ref p) []))) : List (Str × V)).lookup ("begins" : Str) = some (.ref f4) := by rw [lookup_putF, if_pos rfl]
    obtain ⟨kus, hku1, hku2⟩ := UnAt.keepX hx k5 hU
    refine Wp.dcIt walk_str (fun i G => Same H5 G ∧ G Ld = some (.dK (numD ((cl S).take i) fun x => pix b (cl S) (e x)))) ⟨sLd, upd_same⟩ (fun _ _ _ _ => trivial) ?_ ?_
    · rintro i y G G' hi ⟨s5, hG⟩ ⟨rfl, c, hc, rfl⟩
      have hxc := str_at hc
      have hm := List.mem_of_getElem? hxc
      have hfr := fresh_take g.nd hxc
      obtain ⟨v1, v2, v3, v4, v5⟩ := g.iv c hm
      have hi8 : i < S.length := hi
      repeat walk_at "W"
      refine ⟨x, CA, dx, _, _, rfl, s5 _ _ hx5, T.cl, T.n4, hfb, ?_⟩
      repeat walk_at "W"
      refine Wp.dK_get (s5 _ _ hku1) (hku2 c hm) ?_
      refine Wp.dK_get (s5 _ _ hf5) (sgD_get v1) ?_
      refine ⟨_, sk c, rfl, hG, by rw [sgD_len, List.length_take, sizeLine_eq]; omega, fun b' o e => ?_, ?_⟩
      · rw [upd_ne (fun q => by rw [q, hLd] at e; cases e)]
        exact s5 _ _ e
      · rw [sgD_put hfr, show (fun x => pix b (cl S) (b x)) (inv c) = pix b (cl S) (e c) from congrArg (pix b (cl S)) v2, tk1 hxc, numD, sgD_snoc]
        exact upd_same
    · rintro G ⟨s5, hG⟩
      rw [show S.cps.size = (cl S).length from (len_cl S).symm, List.take_length] at hG
      have hxG := s5 _ _ hx5
      have l5 := length_putF "leads" (.ref Ld) (putF "begins" (.ref f4) (putF "undoing" (.ref u) (putF "rights" (.ref d) (putF "book" (.ref p) []))))
      repeat walk_at "W"
      refine ⟨x, CA, dx, _, rfl, hxG, T.cl, T.n5, by omega, ?_⟩
      generalize hH6 : upd G x (.ins CA dx (putF "leads" (.ref Ld) (putF "begins" (.ref f4) (putF "undoing" (.ref u) (putF "rights" (.ref d) (putF "book" (.ref p) [])))))) = H6
      have hx6 : H6 x = some (.ins CA dx (putF "leads" (.ref Ld) (putF "begins" (.ref f4) (putF "undoing" (.ref u) (putF "rights" (.ref d) (putF "book" (.ref p) [])))))) := by rw [← hH6]; exact upd_same
      have k6 : Keep x H H6 := fun b' o hb e => by rw [← hH6, upd_ne hb]; exact s5 _ _ (k5 _ _ hb e)
      have hf6 : H6 f4 = some (.dK (numD (cl S) fun x => pix b (cl S) (b x))) := by rw [← hH6, upd_ne hf4x]; exact s5 _ _ hf5
      have hL6 : H6 Ld = some (.dK (numD (cl S) fun x => pix b (cl S) (e x))) := by rw [← hH6, upd_ne (ne_of hG hxG (by intro z; cases z))]; exact hG
      have hfl : (putF "leads" (.ref Ld) (putF "begins" (.ref f4) (putF "undoing" (.ref u) (putF "rights" (.ref d) (putF "book" (.ref p) [])))) : List (Str × V)).lookup ("leads" : Str) = some (.ref Ld) := by rw [lookup_putF, if_pos rfl]
      have hfb6 : (putF "leads" (.ref Ld) (putF "begins" (.ref f4) (putF "undoing" (.ref u) (putF "rights" (.ref d) (putF "book" (.ref p) [])))) : List (Str × V)).lookup ("begins" : Str) = some (.ref f4) := by rw [lookup_putF, if_neg (by decide +kernel), lookup_putF, if_pos rfl]
      repeat walk_at "W"
      refine bk_signs TB (hB.keepX hx k6) ?_
      repeat walk_at "W"
      refine ⟨x, CA, dx, _, _, rfl, hx6, T.cl, T.n4, hfb6, ?_⟩
      repeat walk_at "W"
      refine ⟨x, CA, dx, _, _, rfl, hx6, T.cl, T.n5, hfl, ?_⟩
      repeat walk_at "W"
      have memb : ∀ y ∈ cl S, b y ∈ pls b (cl S) := fun y hy => mem_pls.mpr ⟨y, hy, rfl⟩
      have meme : ∀ y ∈ cl S, e y ∈ pls b (cl S) := fun y hy => by
        obtain ⟨v1, v2, _⟩ := g.iv y hy
        rw [← v2]; exact memb _ v1
      have hpos : 0 < (pls b (cl S)).length := by
        have : 0 < (cl S).length := by rw [len_cl]; exact hl0
        exact List.length_pos_of_mem (memb _ (List.getElem_mem this))
      have hlast : ∃ y ∈ cl S, pix b (cl S) (b y) + 1 = (pls b (cl S)).length := by
        have h1 : (pls b (cl S))[(pls b (cl S)).length - 1]? = some (pls b (cl S))[(pls b (cl S)).length - 1] := List.getElem?_eq_getElem (by omega)
        obtain ⟨y, hy, hyb⟩ := mem_pls.mp (List.mem_of_getElem? h1)
        refine ⟨y, hy, ?_⟩
        rw [hyb, pix_get h1]
        omega
      have hpl := pls_len (b := b) (l := cl S)
      rw [len_cl] at hpl
      refine ⟨S, f4, Ld, (fun x => pix b (cl S) (b x)), (fun x => pix b (cl S) (e x)), (pls b (cl S)).length, rfl, hl, hf6, hL6, fun y hy => ⟨pix_lt (memb y hy), pix_lt (meme y hy)⟩, hlast, by omega, fun H7 L7 ro s7 hL7 hR7 => ?_⟩
      repeat walk_at "W"
      refine ⟨x, CA, dx, _, rfl, s7 _ _ hx6, T.cl, T.n6, by omega, ?_⟩
      have k7 : Keep x H (upd H7 x (.ins CA dx (arF p d u f4 Ld L7))) := fun b' o hb e => by rw [upd_ne hb]; exact s7 _ _ (k6 _ _ hb e)
      have nx : ∀ {a : Addr} {o : HO}, H7 a = some o → (∀ C dx fs, o ≠ .ins C dx fs) → (upd H7 x (.ins CA dx (arF p d u f4 Ld L7))) a = some o := fun {a o} ha ho => by
        rw [upd_ne (fun q => by rw [q, s7 _ _ hx6] at ha; exact ho _ _ _ (Option.some.inj ha).symm)]
        exact ha
      exact q _ k7 ⟨dx, p, d, u, f4, Ld, L7, ro, upd_same, hB.keepX hx k7, RtAt.keepX hx k7 hR, UnAt.keepX hx k7 hU, nx (s7 _ _ hf6) (by intro _ _ _ z; cases z), nx (s7 _ _ hL6) (by intro _ _ _ z; cases z), nx hL7 (by intro _ _ _ z; cases z), hR7⟩
end
end K57
set_option Elab.async false
set_option linter.all false
set_option maxRecDepth 100000
set_option maxHeartbeats 8000000
namespace K57
open PySem PySem.Spec PyProof.Rows L2 Bk
open Wp (Keep wo_lt wo_le wo_gt wo_ge wo_eq wo_ne wo_in wo_nin wo_add wo_mul op_shlB ws_any wc_int wc_isi u65)
abbrev s_Arrows_is_loop : Stmt := inClass (topS 42) 2
abbrev N_Arrows_is_loop : List Str := ["self", "text"]
theorem sc_Arrows_is_loop : FnScope N_Arrows_is_loop ["self", "text"] (defScope s_Arrows_is_loop) := ⟨rfl, rfl, rfl, by decide +kernel, rfl, by decide +kernel, by decide +kernel⟩

local macro_rules | `(tactic| walk_at "W") => `(tactic| first
  | (with_reducible first
    | refine Wp.seq ?_ | refine Wp.asg ?_ | refine Wp.ret ?_ | refine Wp.retN ?_ | refine Wp.drop ?_ | refine Wp.nxt ?_ | refine Wp.ifs ?_ | refine Wp.gname ?_
    | refine Wp.op ?_ | refine Wp.un ?_ | refine Wp.tst ?_ | refine Wp.tb' ?_ | refine Wp.tnot ?_ | refine Wp.tand ?_ | refine Wp.tor ?_ | refine Wp.tandV ?_ | refine Wp.torV ?_ | refine Wp.tnotV ?_ | refine Wp.tif ?_ | refine Wp.tchain ?_
    | refine Wp.cb ?_ | refine Wp.call ?_ | refine Wp.cons ?_ | refine Wp.nil ?_ | refine Wp.gsub ?_ | refine Wp.cst ?_ | refine Wp.i0 ?_ | refine Wp.int1 ?_ | refine Wp.eb ?_ | refine Wp.ei ?_
    | refine Wp.gnil ?_ | refine Wp.gcons ?_ | refine Wp.mko ?_ | refine Wp.bm ?_ | refine Wp.ienum ?_ | refine Wp.tru ?_ | refine Wp.u1 ?_ | refine Wp.for_ ?_ | refine Wp.lc ?_ | refine Wp.istr ?_ | refine Wp.ilist ?_ | refine Wp.itup ?_ | refine Wp.irng1 ?_ | refine Wp.irng2 ?_ | refine Wp.yes ?_ | refine Wp.es ?_ | refine Wp.er ?_ | refine Wp.sl ?_ | refine Wp.nopart ?_ | refine Wp.part ?_ | refine Wp.lst ?_ | refine Wp.tup ?_
    | refine Wp.din ?_ | refine Wp.dnotin ?_ | refine Wp.dget ?_ | refine Wp.dget2 ?_ | refine Wp.dput ?_ | refine Wp.dnewK ?_ | refine Wp.dnewT ?_ | refine Wp.bm0 ?_ | refine Wp.m1 ?_ | refine Wp.exs ?_ | refine Wp.is0 ?_ | refine Wp.isnot0 ?_ | refine Wp.fld ?_ | refine Wp.sfld ?_
    | refine Wp.par ?_ | refine Wp.parV ?_ | refine Wp.brk ?_ | refine Wp.aug ?_ | refine Wp.ipaI ?_ | refine Wp.ipsI ?_ | refine Bk.ienumS ?_ | refine Wp.make_ ?_ | refine Wp.itnn ?_ | refine Wp.ltI ?_ | refine Wp.leI ?_ | refine Wp.leS ?_ | refine Wp.inSg ?_ | refine Wp.gtI ?_ | refine Wp.geI ?_ | refine Wp.eqI ?_ | refine Wp.neI ?_ | refine Wp.addI ?_ | refine Wp.ltS ?_ | refine Wp.eqS ?_ | refine Wp.neS ?_)
  | ((with_reducible refine' Wp.var ?hv ?_); (case hv => exact rfl))
  | ((with_reducible refine' Wp.ixl ?hs ?he ?_); (case hs => first | exact SqL.of upd_same | exact SqL.of (by assumption) | assumption); (case he => exact rfl))
  | ((with_reducible refine' Wp.setl ?hs ?he ?_); (case hs => first | exact upd_same | assumption); (case he => exact rfl))
  | ((with_reducible refine' Wp.modP ?hs ?_); (case hs => first | decide | omega))
  | ((with_reducible refine' Wp.divN ?hs ?ht ?_); (case hs => first | decide | omega); (case ht => first | decide | omega))
  | ((with_reducible refine' Wp.mulM ?hs ?ht ?_); (case hs => decide); (case ht => decide))
  | ((with_reducible refine' Wp.mulL ?hs ?_); (case hs => omega))
  | ((with_reducible refine' Wp.mulR ?hs ?_); (case hs => omega))
  | ((with_reducible refine' Wp.powS ?hs ?_); (case hs => decide))
  | ((with_reducible refine' Wp.shr ?hs ?_); (case hs => decide))
  | ((with_reducible refine' Wp.szl ?hs ?_); (case hs => first | decide | (simp; done)))
  | ((with_reducible refine' Wp.lenL ?hs ?_); (case hs => first | exact SqL.of upd_same | exact SqL.of (by assumption) | assumption))
  | ((with_reducible refine' Wp.lenT ?hs ?_); (case hs => first | exact SqT.of upd_same | exact SqT.of (by assumption) | assumption))
  | ((with_reducible refine' Wp.iteC ?hs ?_); (case hs => exact rfl)) | ((with_reducible refine' Wp.iteD ?hs ?_); (case hs => exact Bool.false_ne_true))
  | ((with_reducible refine' Wp.wp ?hs ?_); (case hs => rfl))
  | (with_reducible first | refine Wp.abs ?_ | refine Wp.max2 ?_ | refine Wp.min2 ?_)
  | ((with_reducible refine' Wp.sll ?hs ?_); (case hs => first | exact SqL.of upd_same | exact SqL.of (by assumption) | assumption)))
local macro_rules | `(tactic| walk_at "KQ") => `(tactic| first
  | exact Wp.kq "int" rfl (by decide +kernel) | exact Wp.kq "bool" rfl (by decide +kernel) | exact Wp.kq "str" rfl (by decide +kernel) | exact Wp.kq "list" rfl (by decide +kernel)
  | exact Wp.kq "tuple" rfl (by decide +kernel) | exact Wp.kq "NoneType" rfl (by decide +kernel) | exact Wp.kq "dict" rfl (by decide +kernel))

theorem arF_none {m : Str} (p d u f l r : Addr) (h : ∀ z ∈ (["roots", "leads", "begins", "undoing", "rights", "book"] : List Str), m ≠ z) : (arF p d u f l r).lookup m = none := by
  unfold arF
  rw [lookup_putF, if_neg (h _ (by simp)), lookup_putF, if_neg (h _ (by simp)), lookup_putF, if_neg (h _ (by simp)), lookup_putF, if_neg (h _ (by simp)), lookup_putF, if_neg (h _ (by simp)), lookup_putF, if_neg (h _ (by simp))]
  rfl
section
variable {P : Program} {w : World} {K : PySem.W.Frag} {mg : Str → Option Value} {base : Heap}
/-- whether a text is a loop -/
def spIsLoop (C CA : Addr) : Sp := fun vs H Q _ => ∃ (x : Addr) (S : Str) (rs : List (Str × Str)) (b e : Nat → Plc) (pr : Nat → Nat → Option Nat) (inv : Nat → Nat) (z : Str), vs = [.ref x, .str z] ∧ ArAt C CA H x S rs b e pr inv ∧ Gpd (cl S) b e pr inv ∧ z.length ≤ 1000 ∧
  (z.length = 1 → ∃ c ∈ cl S, z = mkS [c]) ∧ (∀ c ∈ cl S, z = mkS [c] → Q (.bl (decide (b c = e c))) H) ∧ (z.length ≠ 1 → Q (.bl false) H)
theorem ok_isLoop (B : Wp.Blt mg) {f C CA : Addr} {fd : FuncData} (F : Fun K "is_loop" "Arrows.is_loop" s_Arrows_is_loop f fd) (T : ArC K CA) : FnOk P w K mg base CX0 1 f fd ["self", "text"] (spIsLoop C CA) := by
  refine F.ok sc_Arrows_is_loop (fun vs H Q E h => ?_) (fun cdv A outer s H vs Q E hr h => ?_)
  · obtain ⟨x, S, rs, b, e, pr, inv, z, rfl, _⟩ := h
    rfl
  · obtain ⟨x, S, rs, b, e, pr, inv, z, rfl, hA, g, hz, hz1, q, q0⟩ := h
    refine ⟨_, (pss_one (ps_ret (pe_and (pe_cmpR (wo_eq (K := K) hr.units) (pe_callB (Wp.wc_len (K := K)) (by rfl) B.len (by decide +kernel) (pa_cons (pv 1) pa_nil)) pe_int (nomark _)) (pe_one (pe_cmpR (wo_eq (K := K) hr.units) (pe_dget (hu_of hr) (Wp.wfld (K := K) (pe_fld (pv 0) rfl)) (pv 1) (fun _ _ => rfl)) (pe_dget (hu_of hr) (Wp.wfld (K := K) (pe_fld (pv 0) rfl)) (pv 1) (fun _ _ => rfl)) (nomark _)))))), ?_⟩
    refine Wp.st (σ' := [some (.ref x), some (.str z)]) rfl ?_
    obtain ⟨dx, p, d, u, f1, l, r, ro, h1, h2, h3, h4, h5, h6, h7, h8⟩ := hA.ex
    repeat walk_at "W"
    refine Wp.lenS (Nat.le_of_lt (small1000 hz)) ?_
    repeat walk_at "W"
    refine Wp.itd (fun e1 => ?_) (fun e1 => ?_)
    · obtain ⟨c, hc, rfl⟩ := hz1 (Int.ofNat.inj e1)
      obtain ⟨v1, v2, _⟩ := g.iv c hc
      have m1 : b c ∈ pls b (cl S) := mem_pls.mpr ⟨c, hc, rfl⟩
      have m2 : e c ∈ pls b (cl S) := mem_pls.mpr ⟨inv c, v1, v2⟩
      repeat walk_at "W"
      refine ⟨x, CA, dx, _, _, rfl, h1, T.cl, T.n4, arF_begins _ _ _ _ _ _, ?_⟩
      repeat walk_at "W"
      refine Wp.dK_get h5 (sgD_get hc) ?_
      repeat walk_at "W"
      refine ⟨x, CA, dx, _, _, rfl, h1, T.cl, T.n5, arF_leads _ _ _ _ _ _, ?_⟩
      repeat walk_at "W"
      refine Wp.dK_get h6 (sgD_get hc) ?_
      refine Wp.eqI ?_
      have ed : decide (((pix b (cl S) (b c) : Nat) : Int) = ((pix b (cl S) (e c) : Nat) : Int)) = decide (b c = e c) := by
        rw [decide_eq_decide]
        exact ⟨fun h => pix_inj m1 m2 (Int.ofNat.inj h), fun h => by rw [h]⟩
      have q1 := q c hc rfl
      rw [← ed] at q1
      exact q1
    · exact q0 fun h => e1 (by rw [h]; rfl)
end
end K57
set_option Elab.async false
set_option linter.all false
set_option maxRecDepth 100000
set_option maxHeartbeats 8000000
namespace K57
open PySem PySem.Spec PyProof.Rows L2 Bk
open Wp (Keep wo_lt wo_le wo_gt wo_ge wo_eq wo_ne wo_in wo_nin wo_add wo_mul op_shlB ws_any wc_int wc_isi u65)
abbrev s_checked_arrows : Stmt := topS 46
abbrev N_checked_arrows : List Str := ["book", "rights", "left", "right"]
theorem sc_checked_arrows : FnScope N_checked_arrows ["book"] (defScope s_checked_arrows) := ⟨rfl, rfl, rfl, by decide +kernel, rfl, by decide +kernel, by decide +kernel⟩
local macro_rules | `(tactic| walk_at "W") => `(tactic| first
  | (with_reducible first
    | refine Wp.seq ?_ | refine Wp.asg ?_ | refine Wp.ret ?_ | refine Wp.retN ?_ | refine Wp.drop ?_ | refine Wp.nxt ?_ | refine Wp.ifs ?_ | refine Wp.gname ?_
    | refine Wp.op ?_ | refine Wp.un ?_ | refine Wp.tst ?_ | refine Wp.tb' ?_ | refine Wp.tnot ?_ | refine Wp.tand ?_ | refine Wp.tor ?_ | refine Wp.tandV ?_ | refine Wp.torV ?_ | refine Wp.tnotV ?_ | refine Wp.tif ?_ | refine Wp.tchain ?_
    | refine Wp.cb ?_ | refine Wp.call ?_ | refine Wp.cons ?_ | refine Wp.nil ?_ | refine Wp.gsub ?_ | refine Wp.cst ?_ | refine Wp.i0 ?_ | refine Wp.int1 ?_ | refine Wp.eb ?_ | refine Wp.ei ?_
    | refine Wp.gnil ?_ | refine Wp.gcons ?_ | refine Wp.mko ?_ | refine Wp.bm ?_ | refine Wp.ienum ?_ | refine Wp.tru ?_ | refine Wp.u1 ?_ | refine Wp.for_ ?_ | refine Wp.lc ?_ | refine Wp.istr ?_ | refine Wp.ilist ?_ | refine Wp.itup ?_ | refine Wp.irng1 ?_ | refine Wp.irng2 ?_ | refine Wp.yes ?_ | refine Wp.es ?_ | refine Wp.er ?_ | refine Wp.sl ?_ | refine Wp.nopart ?_ | refine Wp.part ?_ | refine Wp.lst ?_ | refine Wp.tup ?_
    | refine Wp.din ?_ | refine Wp.dnotin ?_ | refine Wp.dget ?_ | refine Wp.dget2 ?_ | refine Wp.dput ?_ | refine Wp.dnewK ?_ | refine Wp.dnewT ?_ | refine Wp.bm0 ?_ | refine Wp.m1 ?_ | refine Wp.exs ?_ | refine Wp.is0 ?_ | refine Wp.isnot0 ?_ | refine Wp.fld ?_ | refine Wp.sfld ?_
    | refine Wp.par ?_ | refine Wp.parV ?_ | refine Wp.brk ?_ | refine Wp.aug ?_ | refine Wp.ipaI ?_ | refine Wp.ipsI ?_ | refine Bk.ienumS ?_ | refine Wp.make_ ?_ | refine Wp.itnn ?_ | refine Wp.ltI ?_ | refine Wp.leI ?_ | refine Wp.leS ?_ | refine Wp.inSg ?_ | refine Wp.gtI ?_ | refine Wp.geI ?_ | refine Wp.eqI ?_ | refine Wp.neI ?_ | refine Wp.addI ?_ | refine Wp.ltS ?_ | refine Wp.eqS ?_ | refine Wp.neS ?_)
  | ((with_reducible refine' Wp.var ?hv ?_); (case hv => exact rfl))
  | ((with_reducible refine' Wp.ixl ?hs ?he ?_); (case hs => first | exact SqL.of upd_same | exact SqL.of (by assumption) | assumption); (case he => exact rfl))
  | ((with_reducible refine' Wp.setl ?hs ?he ?_); (case hs => first | exact upd_same | assumption); (case he => exact rfl))
  | ((with_reducible refine' Wp.modP ?hs ?_); (case hs => first | decide | omega))
  | ((with_reducible refine' Wp.divN ?hs ?ht ?_); (case hs => first | decide | omega); (case ht => first | decide | omega))
  | ((with_reducible refine' Wp.mulM ?hs ?ht ?_); (case hs => decide); (case ht => decide))
  | ((with_reducible refine' Wp.mulL ?hs ?_); (case hs => omega))
  | ((with_reducible refine' Wp.mulR ?hs ?_); (case hs => omega))
  | ((with_reducible refine' Wp.powS ?hs ?_); (case hs => decide))
  | ((with_reducible refine' Wp.shr ?hs ?_); (case hs => decide))
  | ((with_reducible refine' Wp.szl ?hs ?_); (case hs => first | decide | (simp; done)))
  | ((with_reducible refine' Wp.lenL ?hs ?_); (case hs => first | exact SqL.of upd_same | exact SqL.of (by assumption) | assumption))
  | ((with_reducible refine' Wp.lenT ?hs ?_); (case hs => first | exact SqT.of upd_same | exact SqT.of (by assumption) | assumption))
  | ((with_reducible refine' Wp.iteC ?hs ?_); (case hs => exact rfl)) | ((with_reducible refine' Wp.iteD ?hs ?_); (case hs => exact Bool.false_ne_true))
  | ((with_reducible refine' Wp.wp ?hs ?_); (case hs => rfl))
  | (with_reducible first | refine Wp.abs ?_ | refine Wp.max2 ?_ | refine Wp.min2 ?_)
  | ((with_reducible refine' Wp.sll ?hs ?_); (case hs => first | exact SqL.of upd_same | exact SqL.of (by assumption) | assumption)))
local macro_rules | `(tactic| walk_at "KQ") => `(tactic| first
  | exact Wp.kq "int" rfl (by decide +kernel) | exact Wp.kq "bool" rfl (by decide +kernel) | exact Wp.kq "str" rfl (by decide +kernel) | exact Wp.kq "list" rfl (by decide +kernel)
  | exact Wp.kq "tuple" rfl (by decide +kernel) | exact Wp.kq "NoneType" rfl (by decide +kernel) | exact Wp.kq "dict" rfl (by decide +kernel))

def lD (ls : List (List Nat)) (v : List Nat → V) : List (Key × V) := ls.map fun l => (Sum.inr (mkS l), v l)
theorem lD_get {v : List Nat → V} {x : List Nat} : ∀ {ls : List (List Nat)}, valV (lD ls v) (Sum.inr (mkS x)) = if x ∈ ls then some (v x) else none
  | [] => rfl
  | y :: ls => by
    unfold lD
    rw [List.map_cons]
    by_cases e : y = x
    · subst e
      rw [valV_pos rfl, if_pos List.mem_cons_self]
    · rw [valV_neg (fun q => e (mkS_inj (Sum.inr.inj q)))]
      have := lD_get (v := v) (x := x) (ls := ls)
      unfold lD at this
      rw [this]
      have hne : x ≠ y := fun q => e q.symm
      simp [hne]
theorem lD_put {v : List Nat → V} {x : List Nat} {ls : List (List Nat)} (h : x ∉ ls) : putK (lD ls v) (Sum.inr (mkS x)) (v x) = lD (ls ++ [x]) v := by
  rw [L2.putK_new _ (by rw [lD_get, if_neg h])]
  unfold lD
  rw [List.map_append]
  rfl
section
variable {P : Program} {w : World} {K : PySem.W.Frag} {mg : Str → Option Value} {base : Heap}
/-- the arrows of a group book -/
def spCheckedA (C CA : Addr) : Sp := fun vs H Q _ => ∃ (p : Addr) (S : Str) (rs : List (Str × Str)) (b e : Nat → Plc) (pr : Nat → Nat → Option Nat) (inv : Nat → Nat), vs = [.ref p] ∧ BookAt C H p S rs ∧ S.length ≤ 8 ∧ 0 < S.length ∧ Gbk (cl S) b e pr rs ∧ Gpd (cl S) b e pr inv ∧
  ∀ H' x, Same H H' → ArAt C CA H' x S rs b e pr inv → Q (.ref x) H'
theorem ok_checkedA (B : Wp.Blt mg) {f fC fL fU fI C CA : Addr} {fd fdC fdL fdU fdI : FuncData} (F : Fun K "checked_arrows" "checked_arrows" s_checked_arrows f fd) (TB : BkC K C)
    (D_checked_book : Wp.Dh K mg "checked_book" fC fdC ["book"]) (G_checked_book : FnOk P w K mg base CX0 3 fC fdC ["book"] (spCheckedB C))
    (D_least_rules : Wp.Dh K mg "least_rules" fL fdL ["book"]) (G_least_rules : FnOk P w K mg base CX0 4 fL fdL ["book"] (spLeastR C))
    (D_undoing_signs : Wp.Dh K mg "undoing_signs" fU fdU ["signs", "rights"]) (G_undoing_signs : FnOk P w K mg base CX0 1 fU fdU ["signs", "rights"] spUndo)
    (M_Arrows : Mk K CA fI) (k_Arrows : mg "Arrows" = some (.ref CA)) (G_Arrows : FnOk P w K mg base CX0 2 fI fdI ["self", "book", "rights", "undoing"] (spArI C CA)) (b_Arrows : Binds K fdI ["self", "book", "rights", "undoing"] []) : FnOk P w K mg base CX0 5 f fd ["book"] (spCheckedA C CA) := by
  refine F.ok sc_checked_arrows (fun vs H Q E h => ?_) (fun cdv A outer s H vs Q E hr h => ?_)
  · obtain ⟨p, S, rs, b, e, pr, inv, rfl, _⟩ := h
    rfl
  · obtain ⟨p, S, rs, b, e, pr, inv, rfl, hB, hl, hl0, hG, g, q⟩ := h
    refine ⟨_, (pss_cons (ps_set (i := 1) sc_checked_arrows.nd rfl (by first | exact .inl rfl | exact .inr rfl) pe_dnewK)
  (pss_cons (ps_for PassesOwn.never rfl (Wp.wi_tup (K := K) (pe_call G_least_rules (hr.mono (by decide)) (by rfl) D_least_rules.g D_least_rules.k D_least_rules.b .nil pass0 (pa_cons (pe_call G_checked_book (hr.mono (by decide)) (by rfl) D_checked_book.g D_checked_book.k D_checked_book.b .nil pass0 (pa_cons (pv 0) pa_nil)) pa_nil))) (Wp.wg_tup (K := K) (n := 2) rfl (pgs_cons (pg_name (i := 2) sc_checked_arrows.nd rfl (by first | exact .inl rfl | exact .inr rfl)) (pgs_cons (pg_name (i := 3) sc_checked_arrows.nd rfl (by first | exact .inl rfl | exact .inr rfl)) pgs_nil))) (pss_cons (ps_if (pt_cmpR (wo_ne (K := K) hr.units) (pe_callB (Wp.wc_len (K := K)) (by rfl) B.len (by decide +kernel) (pa_cons (pv 2) pa_nil)) pe_int (nomark _)) (pss_one ps_never) pss_nil)
  (pss_one (ps_dput (hu_of hr) (pv 1) (pv 2) (pv 3) rfl))))
  (pss_one (ps_ret (pe_make M_Arrows G_Arrows (hr.mono (by decide)) (by rfl) k_Arrows b_Arrows .nil pass0 (pa_cons (pv 0) (pa_cons (pv 1) (pa_cons (pe_call G_undoing_signs (hr.mono (by decide)) (by rfl) D_undoing_signs.g D_undoing_signs.k D_undoing_signs.b .nil pass0 (pa_cons (Wp.wfld (K := K) (pe_fld (pv 0) rfl)) (pa_cons (pv 1) pa_nil))) pa_nil)))))))), ?_⟩
    refine Wp.st (σ' := [some (.ref p), none, none, none]) rfl ?_
    repeat walk_at "W"
    intro U hU
    have sU := Wp.same_upd (o := .dK []) hU
    repeat walk_at "W"
    refine ⟨p, S, rs, rfl, hB.same sU, hG.set g, fun H1 s1 => ?_⟩
    have s01 := sU.trans s1
    repeat walk_at "W"
    refine ⟨p, S, rs, rfl, hB.same s01, fun H2 t bs ls s2 ht0 ht hls hl64 hrs => ?_⟩
    repeat walk_at "W"
    have hbl := hrs.len
    have hll : (leastR rs ls).length = ls.length := List.length_map _
    have hlm := hG.least hls
    have hU2 : H2 U = some (.dK []) := s2 _ _ (s1 _ _ upd_same)
    have s02 : Same H H2 := s01.trans s2
    refine ⟨⟨_, SqT.of ht⟩, Wp.forIt (walk_tup (xs := bs.map V.ref)) (fun i σ1 G => ∃ x2 x3, σ1 = [some (.ref p), some (.ref U), x2, x3] ∧ Same H G ∧ G t = some (.tup (bs.map V.ref)) ∧ RulesAt G bs (leastR rs ls) ∧ G U = some (.dK (lD (ls.take i) fun l => .str (mkS (overP rs l))))) ⟨_, _, rfl, s02, ht, hrs, hU2⟩ (fun i σ1 G _ ⟨_, _, _, _, h, _⟩ => SqT.of h) ?_ ?_⟩
    · rintro i x σ1 G G' hi ⟨x2, x3, rfl, s3, ht3, hr3, hU3⟩ ⟨rfl, hx⟩
      rw [List.getElem?_map] at hx
      obtain ⟨bb, hbb, rfl⟩ := Option.map_eq_some_iff.mp hx
      have hi2 : i < ls.length := by
        have := (List.getElem?_eq_some_iff.mp hbb).1
        omega
      have hli : ls[i]? = some ls[i] := List.getElem?_eq_getElem hi2
      generalize ls[i] = l at hli
      obtain ⟨bb', hb1, hb2⟩ := hr3.get (i := i) (p := (mkS l, mkS (overP rs l))) (by unfold leastR; rw [List.getElem?_map, hli]; rfl)
      rw [hbb] at hb1
      cases hb1
      obtain ⟨y, hy, z, hz, hc, rfl⟩ := (hlm l).mp (List.mem_of_getElem? hli)
      refine Wp.gt (xs := [.str (mkS [y, z]), .str (mkS (overP rs [y, z]))]) (SqT.of hb2) rfl ?_
      repeat walk_at "W"
      refine Wp.lenS (by rw [len_mk, sizeLine_eq]; simp) ?_
      repeat walk_at "W"
      refine Wp.dK_put hU3 (by unfold lD; rw [List.length_map, List.length_take, sizeLine_eq]; omega) ?_
      refine ⟨_, _, rfl, fun b' o e => ?_, ?_, ?_, ?_⟩
      · rw [upd_ne (fun q => by rw [q, hU] at e; cases e)]
        exact s3 _ _ e
      · rw [upd_ne (ne_of ht3 hU3 (by intro z; cases z))]; exact ht3
      · refine rulesAt_keep (fun b' xs e => ?_) hr3
        rw [upd_ne (ne_of e hU3 (by intro z; cases z))]; exact e
      · rw [lD_put (v := fun l => .str (mkS (overP rs l))) (fresh_take hls.nd hli), tk1 hli]
        exact upd_same
    · rintro σ1 G ⟨x2, x3, rfl, s3, ht3, hr3, hU3⟩
      rw [List.length_map, hbl, hll, List.take_length] at hU3
      have hRt : RtAt G U (cl S) b e pr := ⟨_, hU3, fun x hx y hy => by
        rw [lD_get]
        by_cases hc : e x = b y
        · rw [if_pos hc, if_pos ((hlm _).mpr ⟨x, hx, y, hy, hc, rfl⟩), hG.over2 hx hy hc]
        · rw [if_neg hc, if_neg (fun h => ?_)]
          obtain ⟨x', _, y', _, hc', e2⟩ := (hlm _).mp h
          simp at e2
          rw [e2.1, e2.2] at hc
          exact hc hc'⟩
      repeat walk_at "W"
      refine bk_signs TB (hB.same s3) ?_
      repeat walk_at "W"
      refine ⟨S, U, b, e, pr, inv, rfl, hl, g, hRt, fun H4 un s4 hun => ?_⟩
      repeat walk_at "W"
      intro x dx hx hdx hne
      have sp : Same H4 (upd (upd H4 dx (.own x)) x (.ins CA dx [])) := fun b' o e => by rw [upd_ne (ne_of_none e hx), upd_ne (ne_of_none e hdx)]; exact e
      have s34 := s3.trans s4
      refine ⟨x, dx, p, U, un, S, rs, b, e, pr, inv, rfl, upd_same, hl, hl0, hB.same (s34.trans sp), g, hRt.same (s4.trans sp), hun.same sp, fun H5 k5 hA => ⟨rfl, ?_⟩⟩
      exact q H5 x (fun b' o e => k5 b' o (ne_of_none (s34 _ _ e) hx) (sp _ _ (s34 _ _ e))) hA
end
end K57
set_option Elab.async false
set_option linter.all false
set_option maxRecDepth 100000
set_option maxHeartbeats 8000000
namespace K57
open PySem PySem.Spec PyProof.Rows L2 Bk
open Wp (Keep wo_lt wo_le wo_gt wo_ge wo_eq wo_ne wo_in wo_nin wo_add wo_mul op_shlB ws_any wc_int wc_isi u65)
abbrev s_unwrapped : Stmt := topS 48
abbrev N_unwrapped : List Str := ["arrows", "end", "ahead", "low", "high", "last", "made"]
theorem sc_unwrapped : FnScope N_unwrapped ["arrows", "end"] (defScope s_unwrapped) := ⟨rfl, rfl, rfl, by decide +kernel, rfl, by decide +kernel, by decide +kernel⟩
local macro_rules | `(tactic| walk_at "W") => `(tactic| first
  | (with_reducible first
    | refine Wp.seq ?_ | refine Wp.asg ?_ | refine Wp.ret ?_ | refine Wp.retN ?_ | refine Wp.drop ?_ | refine Wp.nxt ?_ | refine Wp.ifs ?_ | refine Wp.gname ?_
    | refine Wp.op ?_ | refine Wp.un ?_ | refine Wp.tst ?_ | refine Wp.tb' ?_ | refine Wp.tnot ?_ | refine Wp.tand ?_ | refine Wp.tor ?_ | refine Wp.tandV ?_ | refine Wp.torV ?_ | refine Wp.tnotV ?_ | refine Wp.tif ?_ | refine Wp.tchain ?_
    | refine Wp.cb ?_ | refine Wp.call ?_ | refine Wp.cons ?_ | refine Wp.nil ?_ | refine Wp.gsub ?_ | refine Wp.cst ?_ | refine Wp.i0 ?_ | refine Wp.int1 ?_ | refine Wp.eb ?_ | refine Wp.ei ?_
    | refine Wp.gnil ?_ | refine Wp.gcons ?_ | refine Wp.mko ?_ | refine Wp.bm ?_ | refine Wp.ienum ?_ | refine Wp.tru ?_ | refine Wp.u1 ?_ | refine Wp.for_ ?_ | refine Wp.lc ?_ | refine Wp.istr ?_ | refine Wp.ilist ?_ | refine Wp.itup ?_ | refine Wp.irng1 ?_ | refine Wp.irng2 ?_ | refine Wp.yes ?_ | refine Wp.es ?_ | refine Wp.er ?_ | refine Wp.sl ?_ | refine Wp.nopart ?_ | refine Wp.part ?_ | refine Wp.lst ?_ | refine Wp.tup ?_
    | refine Wp.din ?_ | refine Wp.dnotin ?_ | refine Wp.dget ?_ | refine Wp.dget2 ?_ | refine Wp.dput ?_ | refine Wp.dnewK ?_ | refine Wp.dnewT ?_ | refine Wp.bm0 ?_ | refine Wp.m1 ?_ | refine Wp.exs ?_ | refine Wp.is0 ?_ | refine Wp.isnot0 ?_ | refine Wp.fld ?_ | refine Wp.sfld ?_
    | refine Wp.par ?_ | refine Wp.parV ?_ | refine Wp.brk ?_ | refine Wp.aug ?_ | refine Wp.ipaI ?_ | refine Wp.ipsI ?_ | refine Bk.ienumS ?_ | refine Wp.make_ ?_ | refine Wp.itnn ?_ | refine Wp.ltI ?_ | refine Wp.leI ?_ | refine Wp.leS ?_ | refine Wp.inSg ?_ | refine Wp.gtI ?_ | refine Wp.geI ?_ | refine Wp.eqI ?_ | refine Wp.neI ?_ | refine Wp.addI ?_ | refine Wp.ltS ?_ | refine Wp.eqS ?_ | refine Wp.neS ?_)
  | ((with_reducible refine' Wp.var ?hv ?_); (case hv => exact rfl))
  | ((with_reducible refine' Wp.ixl ?hs ?he ?_); (case hs => first | exact SqL.of upd_same | exact SqL.of (by assumption) | assumption); (case he => exact rfl))
  | ((with_reducible refine' Wp.setl ?hs ?he ?_); (case hs => first | exact upd_same | assumption); (case he => exact rfl))
  | ((with_reducible refine' Wp.modP ?hs ?_); (case hs => first | decide | omega))
  | ((with_reducible refine' Wp.divN ?hs ?ht ?_); (case hs => first | decide | omega); (case ht => first | decide | omega))
  | ((with_reducible refine' Wp.mulM ?hs ?ht ?_); (case hs => decide); (case ht => decide))
  | ((with_reducible refine' Wp.mulL ?hs ?_); (case hs => omega))
  | ((with_reducible refine' Wp.mulR ?hs ?_); (case hs => omega))
  | ((with_reducible refine' Wp.powS ?hs ?_); (case hs => decide))
  | ((with_reducible refine' Wp.shr ?hs ?_); (case hs => decide))
  | ((with_reducible refine' Wp.szl ?hs ?_); (case hs => first | decide | (simp; done)))
  | ((with_reducible refine' Wp.lenL ?hs ?_); (case hs => first | exact SqL.of upd_same | exact SqL.of (by assumption) | assumption))
  | ((with_reducible refine' Wp.lenT ?hs ?_); (case hs => first | exact SqT.of upd_same | exact SqT.of (by assumption) | assumption))
  | ((with_reducible refine' Wp.iteC ?hs ?_); (case hs => exact rfl)) | ((with_reducible refine' Wp.iteD ?hs ?_); (case hs => exact Bool.false_ne_true))
  | ((with_reducible refine' Wp.wp ?hs ?_); (case hs => rfl))
  | (with_reducible first | refine Wp.abs ?_ | refine Wp.max2 ?_ | refine Wp.min2 ?_)
  | ((with_reducible refine' Wp.sll ?hs ?_); (case hs => first | exact SqL.of upd_same | exact SqL.of (by assumption) | assumption)))
local macro_rules | `(tactic| walk_at "KQ") => `(tactic| first
  | exact Wp.kq "int" rfl (by decide +kernel) | exact Wp.kq "bool" rfl (by decide +kernel) | exact Wp.kq "str" rfl (by decide +kernel) | exact Wp.kq "list" rfl (by decide +kernel)
  | exact Wp.kq "tuple" rfl (by decide +kernel) | exact Wp.kq "NoneType" rfl (by decide +kernel) | exact Wp.kq "dict" rfl (by decide +kernel))

theorem cutS_last {z : Str} : cutS z (some (-1)) none = mkS ((cl z).drop (z.length - 1)) := by
  have h1 : HT.sIx z.length 0 (some (-1)) = z.length - 1 := by
    unfold HT.sIx
    simp only
    split <;> omega
  have h2 : HT.sIx z.length z.length none = z.length := rfl
  unfold cutS
  rw [h1, h2]
  show mkS (((cl z).drop (z.length - 1)).take _) = _
  rw [List.take_of_length_le]
  rw [List.length_drop, len_cl]
  omega
theorem addC2 (a c : Nat) : mkS [a] ++ (⟨#[c]⟩ : Str) = mkS [a, c] := rfl
section
variable {P : Program} {w : World} {K : PySem.W.Frag} {mg : Str → Option Value} {base : Heap}
/-- what stands ahead of a text's core, and the core -/
def spUnw (C CA : Addr) : Sp := fun vs H Q _ => ∃ (x : Addr) (S : Str) (rs : List (Str × Str)) (b e : Nat → Plc) (pr : Nat → Nat → Option Nat) (inv : Nat → Nat) (z : Str), vs = [.ref x, .str z] ∧ ArAt C CA H x S rs b e pr inv ∧ Gbk (cl S) b e pr rs ∧ Gpd (cl S) b e pr inv ∧ z.length ≤ 1000 ∧ (∀ c ∈ cl z, c ∈ cl S) ∧ NJ b e (cl z) ∧
  ∀ H' t A W, Same H H' → H' t = some (.tup [.str (mkS A), .str (mkS W)]) → Unw (cl S) b e pr inv rs (cl z) A W → Q (.ref t) H'
def gapU (σ : L2.St) (_ : Hp) : Nat := match σ[3]?, σ[4]? with
  | some (some (V.int l)), some (some (V.int h)) => (h - l).toNat
  | _, _ => 0
theorem ok_unw (B : Wp.Blt mg) {f C CA : Addr} {fd : FuncData} (F : Fun K "unwrapped" "unwrapped" s_unwrapped f fd) (T : ArC K CA) : FnOk P w K mg base CX0 1 f fd ["arrows", "end"] (spUnw C CA) := by
  refine F.ok sc_unwrapped (fun vs H Q E h => ?_) (fun cdv A outer s H vs Q E hr h => ?_)
  · obtain ⟨x, S, rs, b, e, pr, inv, z, rfl, _⟩ := h
    rfl
  · obtain ⟨x, S, rs, b, e, pr, inv, z, rfl, hA, hG, g, hz, hzs, hn, q⟩ := h
    refine ⟨_, (pss_cons (ps_set (i := 2) sc_unwrapped.nd rfl (by first | exact .inl rfl | exact .inr rfl) (pe_lst pa_nil))
  (pss_cons (ps_par (i := 3) (j := 4) (by rfl) sc_unwrapped.nd rfl rfl (by decide) rfl rfl (pa_cons pe_int (pa_cons (pe_op op_sub (pe_callB (Wp.wc_len (K := K)) (by rfl) B.len (by decide +kernel) (pa_cons (pv 1) pa_nil)) pe_int) pa_nil)) (by rfl))
  (pss_cons (ps_set (i := 5) sc_unwrapped.nd rfl (by first | exact .inl rfl | exact .inr rfl) (pe_slice (ws_any (K := K)) (pv 1) (po_some (pe_un un_neg pe_int)) po_none))
  (pss_cons (ps_while PassesOwn.never (PW.pt (pw_and (pt_cmpR wo_lt (pv 3) (pv 4) (nomark _)) (pw_and1 (pt_cmp (pc_din (hu_of hr) (pe_op (wo_add (K := K)) (pv 5) (pe_ix (Wp.wx_seq (K := K)) (pv 1) (pv 3) (fun _ _ => rfl))) (Wp.wfld (K := K) (pe_fld (pv 0) rfl))))))) (pss_cons (ps_set (i := 6) sc_unwrapped.nd rfl (by first | exact .inl rfl | exact .inr rfl) (pe_dget (hu_of hr) (Wp.wfld (K := K) (pe_fld (pv 0) rfl)) (pe_op (wo_add (K := K)) (pv 5) (pe_ix (Wp.wx_seq (K := K)) (pv 1) (pv 3) (fun _ _ => rfl))) (fun _ _ => rfl)))
  (pss_cons (ps_expr (Wp.wbm (K := K) (pe_bm PySem.F.plainAttrs_list PySem.F.slot_list_append PySem.F.type_list_append mt_append (pv 2) (pa_cons (pe_ix (Wp.wx_seq (K := K)) (pv 1) (pv 3) (fun _ _ => rfl)) pa_nil))))
  (pss_cons (ps_aug (i := 3) sc_unwrapped.nd rfl (by first | exact .inl rfl | exact .inr rfl) pe_int ip_add)
  (pss_one (ps_if (Wp.wt_truth (K := K) (pv 6) (by intro _; rfl)) (pss_one (ps_set (i := 5) sc_unwrapped.nd rfl (by first | exact .inl rfl | exact .inr rfl) (pv 6))) (pss_cons (ps_aug (i := 4) sc_unwrapped.nd rfl (by first | exact .inl rfl | exact .inr rfl) pe_int ip_sub)
  (pss_one (ps_set (i := 5) sc_unwrapped.nd rfl (by first | exact .inl rfl | exact .inr rfl) (pe_ix (Wp.wx_seq (K := K)) (pv 1) (pv 4) (fun _ _ => rfl)))))))))))
  (pss_one (ps_ret (pe_tup (pa_cons (Wp.wjoin (K := K) (pe_join pe_str (pv 2))) (pa_cons (pe_op (wo_add (K := K)) (pe_slice (ws_any (K := K)) (pv 1) (po_some (pv 3)) (po_some (pv 4))) (pv 5)) pa_nil))))))))), ?_⟩
    refine Wp.st (σ' := [some (.ref x), some (.str z), none, none, none, none, none]) rfl ?_
    obtain ⟨dx, p, d, u, f1, l, r, ro, h1, h2, h3, h4, h5, h6, h7, h8⟩ := hA.ex
    repeat walk_at "W"
    intro Ah hAh
    have sA := Wp.same_upd (o := .lst []) hAh
    have hbig : (1000000 : Nat) < sizeLine := by decide
    repeat walk_at "W"
    refine Wp.lenS (z := z) (by omega) ?_
    repeat walk_at "W"
    refine sls hz ?_
    rw [cutS_last]
    repeat walk_at "W"
    have addM : ∀ (a : List Nat) (b : Str), mkS a ++ b = mkS (a ++ cl b) := fun a b => ext (by rw [cl_mk, show cl (mkS a ++ b) = cl (mkS a) ++ cl b from TL.tl_append _ _, cl_mk])
    have hlc := len_cl z
    have fin : ∀ (low : Nat) (hi : Int) (la : Str) (x6 : Option V) (G : Hp), (∀ b' o, H b' = some o → G b' = some o) → G Ah = some (.lst (((cl z).take low).map ch)) → ((cl z = [] ∧ low = 0 ∧ hi = -1 ∧ la = "") ∨ ∃ (h' : Nat) (zc : Nat), hi = h' ∧ la = mkS [zc] ∧ UwI (cl S) b e pr inv rs (cl z) low h' zc ∧ (h' ≤ low ∨ ∀ c, (cl z)[low]? = some c → e zc ≠ b c)) →
        Wp.rJoin K (V.str "") [V.ref Ah] G fun x_1 H1 => tCons (tOp (Wp.rAddU K) (tSl (Wp.rSlU K) (tVar 1) (tPart (tVar 3)) (tPart (tVar 4))) (tVar 5)) tNil [some (V.ref x), some (V.str z), some (V.ref Ah), some (V.int (low : Nat)), some (V.int hi), some (V.str la), x6] H1 fun xs H2 =>
          (x_1 :: xs).length ≤ sizeLine ∧ ∀ (p : Addr), H2 p = none → Q (V.ref p) (upd H2 p (.tup (x_1 :: xs))) := fun low hi la x6 G k1 hG1 hcase => by
      refine joinC (SqL.of hG1) (by rw [List.length_take]; omega) ?_
      have done : ∀ (A W : List Nat) (y : Str), y = mkS W → mkS ((cl z).take low) = mkS A → Unw (cl S) b e pr inv rs (cl z) A W → (V.str (mkS ((cl z).take low)) :: [V.str y]).length ≤ sizeLine ∧ ∀ (p : Addr), G p = none → Q (V.ref p) (upd G p (.tup (V.str (mkS ((cl z).take low)) :: [V.str y]))) := fun A W y hy hA hU => by
        refine ⟨by show 2 ≤ _; omega, fun p hp => q _ p A W (fun b' o e => ?_) ?_ hU⟩
        · rw [upd_ne (fun q => by rw [q] at e; have h9 := k1 _ _ e; rw [hp] at h9; cases h9)]
          exact k1 _ _ e
        · rw [hA, hy]; exact upd_same
      repeat walk_at "W"
      refine sls hz ?_
      repeat walk_at "W"
      have hlal : la.length ≤ 1 := by
        rcases hcase with ⟨_, _, _, rfl⟩ | ⟨_, _, _, rfl, _⟩
        · exact Nat.zero_le _
        · rw [len_mk]; exact Nat.le_refl _
      have hcl := cutS_le z (some ((low : Nat) : Int)) (some hi)
      refine Wp.addS (by omega) ?_
      repeat walk_at "W"
      intro p hp
      rcases hcase with ⟨he, rfl, rfl, rfl⟩ | ⟨h', zc, rfl, rfl, I, hf⟩
      · have hz0 : z.length = 0 := by rw [← hlc, he]; rfl
        have e0 : cutS z (some (((0 : Nat) : Nat) : Int)) (some (-1)) ++ "" = mkS [] := ext (by
          rw [cl_mk]
          refine List.length_eq_zero_iff.mp ?_
          rw [show cl (cutS z (some (((0 : Nat) : Nat) : Int)) (some (-1)) ++ "") = cl (cutS z (some (((0 : Nat) : Nat) : Int)) (some (-1))) ++ cl "" from TL.tl_append _ _, List.length_append, len_cl]
          show _ + 0 = 0
          omega)
        exact (done [] [] _ e0 (by rw [he]; rfl) (by rw [he]; exact Unw.nil)).2 p hp
      · have hlt := I.lt
        have hle := I.le
        exact (done _ _ _ (by rw [cutS_mid low h' rfl rfl (by omega), addM, cl_mk]; rfl) rfl (I.done hzs hn hf)).2 p hp
    refine ⟨fun m σ' H' => m = gapU σ' H' ∧ ∃ (low : Nat) (hi : Int) (la : Str) (x6 : Option V), σ' = [some (.ref x), some (.str z), some (.ref Ah), some (.int low), some (.int hi), some (.str la), x6] ∧ (∀ b' o, H b' = some o → H' b' = some o) ∧ H' Ah = some (.lst (((cl z).take low).map ch)) ∧ ((cl z = [] ∧ low = 0 ∧ hi = -1 ∧ la = "") ∨ ∃ (h' : Nat) (zc : Nat), hi = h' ∧ la = mkS [zc] ∧ UwI (cl S) b e pr inv rs (cl z) low h' zc), ⟨_, rfl, 0, _, _, _, rfl, sA, upd_same, ?_⟩, ?_⟩
    · cases hl : (cl z).getLast? with
      | none =>
        have he : cl z = [] := List.getLast?_eq_none_iff.mp hl
        have hzl : z.length = 0 := by rw [← len_cl, he]; rfl
        refine .inl ⟨he, rfl, by rw [hzl]; rfl, by rw [he, List.drop_nil]; rfl⟩
      | some zc =>
        have hI := UwI.start (b := b) (e := e) (pr := pr) (inv := inv) (rs := rs) hl hzs
        have hl2 := hl
        rw [List.getLast?_eq_getElem?] at hl2
        have hlt := (List.getElem?_eq_some_iff.mp hl2).1
        rw [len_cl] at hlt hl2 hI
        refine .inr ⟨z.length - 1, zc, by omega, ?_, hI⟩
        rw [List.drop_eq_getElem_cons (by rw [len_cl]; exact hlt), (List.getElem?_eq_some_iff.mp hl2).2, List.drop_of_length_le (by rw [len_cl]; omega)]
    · rintro m σ' H' ⟨rfl, low, hi, la, x6, rfl, k1, hAh1, hcase⟩
      repeat walk_at "W"
      refine Wp.itd (fun e1 => ?_) (fun e1 => ?_)
      · rcases hcase with ⟨_, rfl, rfl, _⟩ | ⟨h', zc, rfl, rfl, I⟩
        · exact absurd e1 (by decide)
        have hlt : low < h' := by omega
        have hh := I.lt
        obtain ⟨c, hc⟩ : ∃ c, (cl z)[low]? = some c := ⟨_, List.getElem?_eq_getElem (by omega)⟩
        have hlc := len_cl z
        have hcS := hzs c (List.mem_of_getElem? hc)
        have hat : atI z.cps.toList ((low : Nat) : Int) = some c := atI_nat hc
        repeat walk_at "W"
        refine Wp.ixs (by omega) hat ?_
        refine Wp.addS (by rw [len_mk]; show 1 + 1 ≤ _; omega) ?_
        rw [addC2]
        repeat walk_at "W"
        refine ⟨x, CA, dx, _, _, rfl, k1 _ _ h1, T.cl, T.n2, arF_rights _ _ _ _ _ _, ?_⟩
        obtain ⟨kvs, hd1, hd2⟩ := h3
        refine Wp.dK_in (k1 _ _ hd1) ?_
        have hrt := hd2 zc I.mem c hcS
        rw [hrt]
        by_cases hj : e zc = b c
        · rw [if_pos hj] at hrt ⊢
          refine ⟨true, rfl, ?_⟩
          rw [if_pos rfl]
          refine ⟨fun σ'' H'' => (∃ (low : Nat) (hi : Int) (la : Str) (x6 : Option V), σ'' = [some (.ref x), some (.str z), some (.ref Ah), some (.int low), some (.int hi), some (.str la), x6] ∧ (∀ b' o, H b' = some o → H'' b' = some o) ∧ H'' Ah = some (.lst (((cl z).take low).map ch)) ∧ ((cl z = [] ∧ low = 0 ∧ hi = -1 ∧ la = "") ∨ ∃ (h' : Nat) (zc : Nat), hi = h' ∧ la = mkS [zc] ∧ UwI (cl S) b e pr inv rs (cl z) low h' zc)) ∧ gapU σ'' H'' < h' - low, fun σ'' H'' ⟨p1, p2⟩ => ⟨_, Nat.lt_of_lt_of_le p2 (by show _ ≤ ((h' : Int) - (low : Int)).toNat; omega), rfl, p1⟩, ?_⟩
          repeat walk_at "W"
          refine ⟨x, CA, dx, _, _, rfl, k1 _ _ h1, T.cl, T.n2, arF_rights _ _ _ _ _ _, ?_⟩
          repeat walk_at "W"
          refine Wp.ixs (by omega) hat ?_
          refine Wp.addS (by rw [len_mk]; show 1 + 1 ≤ _; omega) ?_
          rw [addC2]
          refine Wp.dK_get (k1 _ _ hd1) hrt ?_
          repeat walk_at "W"
          refine Wp.tyl hAh1 ?_
          repeat walk_at "W"
          refine Wp.ixs (by omega) hat ?_
          repeat walk_at "W"
          refine Wp.app hAh1 (by rw [List.length_map, List.length_take]; omega) ?_
          have k2 : ∀ b' o, H b' = some o → upd H' Ah (.lst (((cl z).take low).map ch ++ [ch c])) b' = some o := fun b' o e => by
            rw [upd_ne (fun q => by rw [q, hAh] at e; cases e)]
            exact k1 _ _ e
          have hA2 : upd H' Ah (.lst (((cl z).take low).map ch ++ [ch c])) Ah = some (.lst (((cl z).take (low + 1)).map ch)) := by
            rw [take_snoc hc, List.map_append]
            exact upd_same
          generalize upd H' Ah (.lst (((cl z).take low).map ch ++ [ch c])) = H2 at k2 hA2
          repeat walk_at "W"
          refine ⟨_, rfl, ?_⟩
          repeat walk_at "W"
          cases hp : pr zc c with
          | some u =>
            refine truS (z := mkS [u]) (by rw [len_mk]; show 1 ≤ 1000; decide) ?_
            rw [if_pos (by rfl)]
            repeat walk_at "W"
            refine ⟨⟨low + 1, _, _, _, rfl, k2, hA2, .inr ⟨h', u, rfl, rfl, I.go1 hG g hzs hn hlt hc hj hp⟩⟩, ?_⟩
            show ((h' : Int) - ((low : Int) + 1)).toNat < h' - low
            omega
          | none =>
            refine truS (z := mkS []) (by rw [len_mk]; decide) ?_
            rw [if_neg (by decide)]
            obtain ⟨hl2, I2⟩ := I.go0 hG g hzs hn hlt hc hj hp
            have hy : (cl z)[h' - 1]? = some (cl z)[h' - 1] := List.getElem?_eq_getElem (by omega)
            generalize (cl z)[h' - 1] = y at hy
            have hat2 : atI z.cps.toList ((h' : Int) - 1) = some y := by
              rw [show (h' : Int) - 1 = ((h' - 1 : Nat) : Int) by omega]
              exact atI_nat hy
            repeat walk_at "W"
            refine ⟨_, rfl, ?_⟩
            repeat walk_at "W"
            refine Wp.ixs (by omega) hat2 ?_
            repeat walk_at "W"
            refine ⟨⟨low + 1, _, _, _, rfl, k2, hA2, .inr ⟨h' - 1, y, by omega, rfl, I2 y hy⟩⟩, ?_⟩
            show ((h' : Int) - 1 - ((low : Int) + 1)).toNat < h' - low
            omega
        · rw [if_neg hj] at hrt ⊢
          refine ⟨false, rfl, ?_⟩
          rw [if_neg Bool.false_ne_true]
          repeat walk_at "W"
          exact fin _ _ _ _ _ k1 hAh1 (.inr ⟨h', zc, rfl, rfl, I, .inr fun c' hc' => by rw [hc] at hc'; cases hc'; exact hj⟩)
      · repeat walk_at "W"
        refine fin _ _ _ _ _ k1 hAh1 ?_
        rcases hcase with hcase | ⟨h', zc, h1', h2', I⟩
        · exact .inl hcase
        · exact .inr ⟨h', zc, h1', h2', I, .inl (by omega)⟩
end
end K57
set_option Elab.async false
set_option linter.all false
set_option maxRecDepth 100000
set_option maxHeartbeats 8000000
namespace K57
open PySem PySem.Spec PyProof.Rows L2 Bk
open Wp (Keep wo_lt wo_le wo_gt wo_ge wo_eq wo_ne wo_in wo_nin wo_add wo_mul op_shlB ws_any wc_int wc_isi u65)
abbrev s_order_of_inner : Stmt := topS 49
abbrev N_order_of_inner : List Str := ["arrows", "inner", "number", "stands"]
theorem sc_order_of_inner : FnScope N_order_of_inner ["arrows", "inner"] (defScope s_order_of_inner) := ⟨rfl, rfl, rfl, by decide +kernel, rfl, by decide +kernel, by decide +kernel⟩

local macro_rules | `(tactic| walk_at "W") => `(tactic| first
  | (with_reducible first
    | refine Wp.seq ?_ | refine Wp.asg ?_ | refine Wp.ret ?_ | refine Wp.retN ?_ | refine Wp.drop ?_ | refine Wp.nxt ?_ | refine Wp.ifs ?_ | refine Wp.gname ?_
    | refine Wp.op ?_ | refine Wp.un ?_ | refine Wp.tst ?_ | refine Wp.tb' ?_ | refine Wp.tnot ?_ | refine Wp.tand ?_ | refine Wp.tor ?_ | refine Wp.tandV ?_ | refine Wp.torV ?_ | refine Wp.tnotV ?_ | refine Wp.tif ?_ | refine Wp.tchain ?_
    | refine Wp.cb ?_ | refine Wp.call ?_ | refine Wp.cons ?_ | refine Wp.nil ?_ | refine Wp.gsub ?_ | refine Wp.cst ?_ | refine Wp.i0 ?_ | refine Wp.int1 ?_ | refine Wp.eb ?_ | refine Wp.ei ?_
    | refine Wp.gnil ?_ | refine Wp.gcons ?_ | refine Wp.mko ?_ | refine Wp.bm ?_ | refine Wp.ienum ?_ | refine Wp.tru ?_ | refine Wp.u1 ?_ | refine Wp.for_ ?_ | refine Wp.lc ?_ | refine Wp.istr ?_ | refine Wp.ilist ?_ | refine Wp.itup ?_ | refine Wp.irng1 ?_ | refine Wp.irng2 ?_ | refine Wp.yes ?_ | refine Wp.es ?_ | refine Wp.er ?_ | refine Wp.sl ?_ | refine Wp.nopart ?_ | refine Wp.part ?_ | refine Wp.lst ?_ | refine Wp.tup ?_
    | refine Wp.din ?_ | refine Wp.dnotin ?_ | refine Wp.dget ?_ | refine Wp.dget2 ?_ | refine Wp.dput ?_ | refine Wp.dnewK ?_ | refine Wp.dnewT ?_ | refine Wp.bm0 ?_ | refine Wp.m1 ?_ | refine Wp.exs ?_ | refine Wp.is0 ?_ | refine Wp.isnot0 ?_ | refine Wp.fld ?_ | refine Wp.sfld ?_
    | refine Wp.par ?_ | refine Wp.parV ?_ | refine Wp.brk ?_ | refine Wp.aug ?_ | refine Wp.ipaI ?_ | refine Wp.ipsI ?_ | refine Bk.ienumS ?_ | refine Wp.make_ ?_ | refine Wp.itnn ?_ | refine Wp.ltI ?_ | refine Wp.leI ?_ | refine Wp.leS ?_ | refine Wp.inSg ?_ | refine Wp.gtI ?_ | refine Wp.geI ?_ | refine Wp.eqI ?_ | refine Wp.neI ?_ | refine Wp.addI ?_ | refine Wp.ltS ?_ | refine Wp.eqS ?_ | refine Wp.neS ?_)
  | ((with_reducible refine' Wp.var ?hv ?_); (case hv => exact rfl))
  | ((with_reducible refine' Wp.ixl ?hs ?he ?_); (case hs => first | exact SqL.of upd_same | exact SqL.of (by assumption) | assumption); (case he => exact rfl))
  | ((with_reducible refine' Wp.setl ?hs ?he ?_); (case hs => first | exact upd_same | assumption); (case he => exact rfl))
  | ((with_reducible refine' Wp.modP ?hs ?_); (case hs => first | decide | omega))
  | ((with_reducible refine' Wp.divN ?hs ?ht ?_); (case hs => first | decide | omega); (case ht => first | decide | omega))
  | ((with_reducible refine' Wp.mulM ?hs ?ht ?_); (case hs => decide); (case ht => decide))
  | ((with_reducible refine' Wp.mulL ?hs ?_); (case hs => omega))
  | ((with_reducible refine' Wp.mulR ?hs ?_); (case hs => omega))
  | ((with_reducible refine' Wp.powS ?hs ?_); (case hs => decide))
  | ((with_reducible refine' Wp.shr ?hs ?_); (case hs => decide))
  | ((with_reducible refine' Wp.szl ?hs ?_); (case hs => first | decide | (simp; done)))
  | ((with_reducible refine' Wp.lenL ?hs ?_); (case hs => first | exact SqL.of upd_same | exact SqL.of (by assumption) | assumption))
  | ((with_reducible refine' Wp.lenT ?hs ?_); (case hs => first | exact SqT.of upd_same | exact SqT.of (by assumption) | assumption))
  | ((with_reducible refine' Wp.iteC ?hs ?_); (case hs => exact rfl)) | ((with_reducible refine' Wp.iteD ?hs ?_); (case hs => exact Bool.false_ne_true))
  | ((with_reducible refine' Wp.wp ?hs ?_); (case hs => rfl))
  | (with_reducible first | refine Wp.abs ?_ | refine Wp.max2 ?_ | refine Wp.min2 ?_)
  | ((with_reducible refine' Wp.sll ?hs ?_); (case hs => first | exact SqL.of upd_same | exact SqL.of (by assumption) | assumption)))
local macro_rules | `(tactic| walk_at "KQ") => `(tactic| first
  | exact Wp.kq "int" rfl (by decide +kernel) | exact Wp.kq "bool" rfl (by decide +kernel) | exact Wp.kq "str" rfl (by decide +kernel) | exact Wp.kq "list" rfl (by decide +kernel)
  | exact Wp.kq "tuple" rfl (by decide +kernel) | exact Wp.kq "NoneType" rfl (by decide +kernel) | exact Wp.kq "dict" rfl (by decide +kernel))

def dueV : Option Nat → V
  | none => .non
  | some n => .int (n : Nat)
section
variable {P : Program} {w : World} {K : PySem.W.Frag} {mg : Str → Option Value} {base : Heap}
/-- the order of a core -/
def spOInner (C CA : Addr) : Sp := fun vs H Q _ => ∃ (x : Addr) (S : Str) (rs : List (Str × Str)) (b e : Nat → Plc) (pr : Nat → Nat → Option Nat) (inv : Nat → Nat) (y : Str), vs = [.ref x, .str y] ∧ ArAt C CA H x S rs b e pr inv ∧ Gbk (cl S) b e pr rs ∧ Gpd (cl S) b e pr inv ∧ S.length ≤ 8 ∧ y.length ≤ 400 ∧ (∀ c ∈ cl y, c ∈ cl S) ∧ NJ b e (cl y) ∧
  ((cl y).length ≤ 1 ∨ ∀ c d, (cl y).getLast? = some c → (cl y).head? = some d → e c ≠ b d) ∧ ∀ H', Same H H' → Q (dueV (dueN rs (cl y))) H'
theorem ok_oInner (B : Wp.Blt mg) {f fI fO C CA : Addr} {fd fdI fdO : FuncData} (F : Fun K "order_of_inner" "order_of_inner" s_order_of_inner f fd) (T : ArC K CA) (ML : Meth K CA "is_loop" fI) (GI : FnOk P w K mg base CX0 1 fI fdI ["self", "text"] (spIsLoop C CA)) (bI : Binds K fdI ["self", "text"] [])
    (D_over : Wp.Dh K mg "over" fO fdO ["book", "text"]) (G_over : FnOk P w K mg base CX0 4 fO fdO ["book", "text"] (spOver C)) : FnOk P w K mg base CX0 5 f fd ["arrows", "inner"] (spOInner C CA) := by
  refine F.ok sc_order_of_inner (fun vs H Q E h => ?_) (fun cdv A outer s H vs Q E hr h => ?_)
  · obtain ⟨x, S, rs, b, e, pr, inv, y, rfl, _⟩ := h
    rfl
  · obtain ⟨x, S, rs, b, e, pr, inv, y, rfl, hA, hG, g, hl, hy, hys, hn, hf, q⟩ := h
    refine ⟨_, (pss_cons (ps_if (PW.pt (pw_and (Wp.wt_truth (K := K) (pv 1) (by intro _; rfl)) (pw_and1 (pt_not (pt_val (pe_meth (pv 0) T.cl ML GI (hr.mono (by decide)) bI .nil pass0 (pa_cons (pv 1) pa_nil))))))) (pss_one (ps_ret pe_non)) pss_nil)
  (pss_cons (ps_set (i := 2) sc_order_of_inner.nd rfl (by first | exact .inl rfl | exact .inr rfl) pe_int)
  (pss_cons (ps_set (i := 3) sc_order_of_inner.nd rfl (by first | exact .inl rfl | exact .inr rfl) (pv 1))
  (pss_cons (ps_while PassesOwn.never (Wp.wt_truth (K := K) (pv 3) (by intro _; rfl)) (pss_cons (ps_set (i := 3) sc_order_of_inner.nd rfl (by first | exact .inl rfl | exact .inr rfl) (pe_call G_over (hr.mono (by decide)) (by rfl) D_over.g D_over.k D_over.b .nil pass0 (pa_cons (Wp.wfld (K := K) (pe_fld (pv 0) rfl)) (pa_cons (pe_op (wo_add (K := K)) (pv 3) (pv 1)) pa_nil))))
  (pss_one (ps_aug (i := 2) sc_order_of_inner.nd rfl (by first | exact .inl rfl | exact .inr rfl) pe_int ip_add))))
  (pss_one (ps_ret (pv 2))))))), ?_⟩
    refine Wp.st (σ' := [some (.ref x), some (.str y), none, none]) rfl ?_
    obtain ⟨dx, p, d, u, f1, l, r, ro, h1, h2, h3, h4, h5, h6, h7, h8⟩ := hA.ex
    have hbig : (1000000 : Nat) < sizeLine := by decide
    repeat walk_at "W"
    have hW1 : (cl y).length = y.length := len_cl y
    -- the while loop
    have addM : ∀ (a : List Nat) (b : Str), cl (mkS a ++ b) = a ++ cl b := fun a b => by rw [show cl (mkS a ++ b) = cl (mkS a) ++ cl b from TL.tl_append _ _, cl_mk]
    have loop : (∀ k, (∀ j, 0 < j → j ≤ k → ¬ pz rs (cl y) j) → k ≤ 8) → (∀ k, (overP rs (powT (cl y) k)).length ≤ 1) → tWhile (Wp.tTru K (tVar 3)) (tSeq (tAsg (tCall (spOver C) [] E0 (tCons (tFld K (tVar 0) "book") (tCons (tOp (Wp.rAddU K) (tVar 3) (tVar 1)) tNil))) (gName 3)) (tAug 2 (tC (V.int 1)) (ipI fun i j => i + j))) { nx := fun σ H => tRet (tVar 2) { nx := fun x H' => Q V.non H', rt := Q } σ H, rt := Q } [some (.ref x), some (.str y), some (.int 1), some (.str y)] H := fun hk8 hst => by
      refine ⟨fun m σ' H' => ∃ k : Nat, σ' = [some (.ref x), some (.str y), some (.int k), some (.str (mkS (overP rs (powT (cl y) k))))] ∧ Same H H' ∧ m = 9 - k ∧ 0 < k ∧ ∀ j, 0 < j → j < k → ¬ pz rs (cl y) j, ⟨8, 1, ?_, Same.refl _, rfl, by decide, fun j h1 h2 => by omega⟩, ?_⟩
      · rw [powT_one, (nf_over hG.good).fix (hG.irr_nj hn), mk_cl]; rfl
      · rintro m σ' H' ⟨k, rfl, s1, rfl, hk0, hkj⟩
        have hl1 := hst k
        repeat walk_at "W"
        refine truS (by rw [len_mk]; omega) ?_
        by_cases hz : overP rs (powT (cl y) k) = []
        · rw [if_neg (by rw [len_mk, hz]; decide)]
          repeat walk_at "W"
          have hk9 : k ≤ 9 := by
            have := hk8 (k - 1) fun j h1 h2 => hkj j h1 (by omega)
            omega
          have := q H' s1
          rw [dueN_some hk0 hk9 hz hkj] at this
          exact this
        · have hk8' := hk8 k fun j h1 h2 => by
            rcases Nat.lt_or_ge j k with z | z
            · exact hkj j h1 z
            · rw [show j = k by omega]; exact hz
          have hkj' : ∀ j, 0 < j → j < k + 1 → ¬ pz rs (cl y) j := fun j h1 h2 => by
            rcases Nat.lt_or_ge j k with z | z
            · exact hkj j h1 z
            · rw [show j = k by omega]; exact hz
          rw [if_pos (by
            have : (overP rs (powT (cl y) k)).length ≠ 0 := fun e => hz (List.length_eq_zero_iff.mp e)
            rw [len_mk, bne_iff_ne]
            omega)]
          refine ⟨fun σ'' H'' => σ'' = [some (.ref x), some (.str y), some (.int (k + 1 : Nat)), some (.str (mkS (overP rs (powT (cl y) (k + 1)))))] ∧ Same H H'', fun σ'' H'' ⟨e1, s2⟩ => ⟨9 - (k + 1), by omega, k + 1, e1, s2, rfl, by omega, hkj'⟩, ?_⟩
          repeat walk_at "W"
          refine ⟨x, CA, dx, _, _, rfl, s1 _ _ h1, T.cl, T.n1, arF_book _ _ _ _ _ _, ?_⟩
          repeat walk_at "W"
          refine Wp.addS (by rw [len_mk]; omega) ?_
          repeat walk_at "W"
          refine ⟨p, S, rs, _, rfl, h2.same s1, by rw [← len_cl, addM, List.length_append]; omega, fun H3 s3 => ?_⟩
          rw [addM, show overP rs (overP rs (powT (cl y) k) ++ cl y) = overP rs (powT (cl y) (k + 1)) from hG.app g (hG.nn _) rfl]
          repeat walk_at "W"
          refine ⟨_, rfl, ?_⟩
          repeat walk_at "W"
          exact ⟨rfl, s1.trans s3⟩
    have hone : ∀ c, cl y = [c] → c ∈ cl S := fun c e => hys c (by rw [e]; exact List.mem_cons_self)
    refine truS (by omega) ?_
    by_cases he : cl y = []
    · have hy0 : y.length = 0 := by rw [← hW1, he]; rfl
      rw [if_neg (by rw [hy0]; decide)]
      have pn : ∀ k, overP rs (powT (cl y) k) = [] := fun k => by
        rw [he]
        have : powT [] k = [] := List.eq_nil_iff_forall_not_mem.mpr fun c hc => nomatch powT_mem hc
        rw [this, hG.nil]
      repeat walk_at "W"
      exact loop (fun k h => by
        rcases Nat.eq_zero_or_pos k with z | z
        · omega
        · exact absurd (pn 1) (h 1 (by decide) z)) (fun k => by rw [pn k]; decide)
    · have hy0 : y.length ≠ 0 := fun e => he (List.length_eq_zero_iff.mp (hW1.trans e))
      rw [if_pos (by rw [bne_iff_ne]; omega)]
      have noOrd : (∀ c d, (cl y).getLast? = some c → (cl y).head? = some d → e c ≠ b d) → ∀ H', Same H H' → Q .non H' := fun hc H' s => by
        have := q H' s
        rw [dueN_none fun n hn0 => hG.no_order he hn hc n hn0] at this
        exact this
      repeat walk_at "W"
      refine ⟨_, rfl, x, dx, _, rfl, h1, arF_none _ _ _ _ _ _ (by decide +kernel), ?_⟩
      repeat walk_at "W"
      refine ⟨x, S, rs, b, e, pr, inv, y, rfl, hA, g, by omega, fun e1 => ?_, fun c hc e1 => ?_, fun e1 => ?_⟩
      · obtain ⟨c, hc⟩ := List.length_eq_one_iff.mp (hW1.trans e1)
        exact ⟨c, hone c hc, by rw [← hc, mk_cl]⟩
      · have e2 : cl y = [c] := by rw [e1, cl_mk]
        refine ⟨_, rfl, Wp.itn (fun e3 => ?_) (fun e3 => ?_)⟩
        · repeat walk_at "W"
          refine noOrd (fun c1 c2 q1 q2 => ?_) H (Same.refl _)
          rw [e2] at q1 q2
          simp at q1 q2
          rw [← q1, ← q2]
          exact fun q => e3 q.symm
        · repeat walk_at "W"
          refine loop (fun k hk => ?_) fun k => by rw [e2, hG.lp_over g hc e3.symm k]; exact opt_len _
          have := hG.lp_few g hc e3.symm (n := k) fun j j0 j1 => by
            have := hk j j0 j1
            rw [e2, hG.pz_lp g hc e3.symm] at this
            exact this
          rw [len_cl] at this
          omega
      · refine ⟨false, rfl, Wp.iteC rfl ?_⟩
        repeat walk_at "W"
        exact noOrd (hf.resolve_left fun q => by
          rcases Nat.lt_or_ge 0 (cl y).length with z | z
          · exact e1 (by omega)
          · exact he (List.length_eq_zero_iff.mp (by omega))) H (Same.refl _)
end
end K57
set_option Elab.async false
set_option linter.all false
set_option maxRecDepth 100000
set_option maxHeartbeats 8000000
namespace K57
open PySem PySem.Spec PyProof.Rows L2 Bk
open Wp (Keep wo_lt wo_le wo_gt wo_ge wo_eq wo_ne wo_in wo_nin wo_add wo_mul op_shlB ws_any wc_int wc_isi u65)
abbrev s__law_undo : Stmt := topS 64
abbrev N__law_undo : List Str := ["_law_signs", "_law_rules", "_law_told", "_law_left_here", "_law_right"]
theorem sc__law_undo : FnScope N__law_undo ["_law_signs", "_law_rules"] (defScope s__law_undo) := ⟨rfl, rfl, rfl, by decide +kernel, rfl, by decide +kernel, by decide +kernel⟩
abbrev s__law_undone : Stmt := topS 65
abbrev N__law_undone : List Str := ["_law_undo_here", "_law_text_here", "_law_sign"]
theorem sc__law_undone : FnScope N__law_undone ["_law_undo_here", "_law_text_here"] (defScope s__law_undone) := ⟨rfl, rfl, rfl, by decide +kernel, rfl, by decide +kernel, by decide +kernel⟩
abbrev s__law_group_text : Stmt := topS 66
abbrev N__law_group_text : List Str := ["_law_source_here", "_law_signs", "_law_rules", "_law_undo_here", "_law_arrow_of", "_law_way", "_law_sign", "_law_loops", "_law_middle", "_law_round_text", "_law_text_here"]
theorem sc__law_group_text : FnScope N__law_group_text ["_law_source_here", "_law_signs", "_law_rules", "_law_undo_here", "_law_arrow_of"] (defScope s__law_group_text) := ⟨rfl, rfl, rfl, by decide +kernel, rfl, by decide +kernel, by decide +kernel⟩
abbrev s__law_power : Stmt := topS 67
abbrev N__law_power : List Str := ["_law_rules", "_law_text_here", "_law_number", "_law_end", "_law_turn"]
theorem sc__law_power : FnScope N__law_power ["_law_rules", "_law_text_here", "_law_number"] (defScope s__law_power) := ⟨rfl, rfl, rfl, by decide +kernel, rfl, by decide +kernel, by decide +kernel⟩
local macro_rules | `(tactic| walk_at "W") => `(tactic| first
  | (with_reducible first
    | refine Wp.seq ?_ | refine Wp.asg ?_ | refine Wp.ret ?_ | refine Wp.retN ?_ | refine Wp.drop ?_ | refine Wp.nxt ?_ | refine Wp.ifs ?_ | refine Wp.gname ?_
    | refine Wp.op ?_ | refine Wp.un ?_ | refine Wp.tst ?_ | refine Wp.tb' ?_ | refine Wp.tnot ?_ | refine Wp.tand ?_ | refine Wp.tor ?_ | refine Wp.tandV ?_ | refine Wp.torV ?_ | refine Wp.tnotV ?_ | refine Wp.tif ?_ | refine Wp.tchain ?_
    | refine Wp.cb ?_ | refine Wp.call ?_ | refine Wp.cons ?_ | refine Wp.nil ?_ | refine Wp.gsub ?_ | refine Wp.cst ?_ | refine Wp.i0 ?_ | refine Wp.int1 ?_ | refine Wp.eb ?_ | refine Wp.ei ?_
    | refine Wp.gnil ?_ | refine Wp.gcons ?_ | refine Wp.mko ?_ | refine Wp.bm ?_ | refine Wp.ienum ?_ | refine Wp.tru ?_ | refine Wp.u1 ?_ | refine Wp.for_ ?_ | refine Wp.lc ?_ | refine Wp.istr ?_ | refine Wp.ilist ?_ | refine Wp.itup ?_ | refine Wp.irng1 ?_ | refine Wp.irng2 ?_ | refine Wp.yes ?_ | refine Wp.es ?_ | refine Wp.er ?_ | refine Wp.sl ?_ | refine Wp.nopart ?_ | refine Wp.part ?_ | refine Wp.lst ?_ | refine Wp.tup ?_
    | refine Wp.din ?_ | refine Wp.dnotin ?_ | refine Wp.dget ?_ | refine Wp.dget2 ?_ | refine Wp.dput ?_ | refine Wp.dnewK ?_ | refine Wp.dnewT ?_ | refine Wp.bm0 ?_ | refine Wp.m1 ?_ | refine Wp.exs ?_ | refine Wp.is0 ?_ | refine Wp.isnot0 ?_ | refine Wp.fld ?_ | refine Wp.sfld ?_
    | refine Wp.par ?_ | refine Wp.parV ?_ | refine Wp.brk ?_ | refine Wp.aug ?_ | refine Wp.ipaI ?_ | refine Wp.ipsI ?_ | refine Bk.ienumS ?_ | refine Wp.make_ ?_ | refine Wp.itnn ?_ | refine Wp.ltI ?_ | refine Wp.leI ?_ | refine Wp.leS ?_ | refine Wp.inSg ?_ | refine Wp.gtI ?_ | refine Wp.geI ?_ | refine Wp.eqI ?_ | refine Wp.neI ?_ | refine Wp.addI ?_ | refine Wp.ltS ?_ | refine Wp.eqS ?_ | refine Wp.neS ?_)
  | ((with_reducible refine' Wp.var ?hv ?_); (case hv => exact rfl))
  | ((with_reducible refine' Wp.ixl ?hs ?he ?_); (case hs => first | exact SqL.of upd_same | exact SqL.of (by assumption) | assumption); (case he => exact rfl))
  | ((with_reducible refine' Wp.setl ?hs ?he ?_); (case hs => first | exact upd_same | assumption); (case he => exact rfl))
  | ((with_reducible refine' Wp.modP ?hs ?_); (case hs => first | decide | omega))
  | ((with_reducible refine' Wp.divN ?hs ?ht ?_); (case hs => first | decide | omega); (case ht => first | decide | omega))
  | ((with_reducible refine' Wp.mulM ?hs ?ht ?_); (case hs => decide); (case ht => decide))
  | ((with_reducible refine' Wp.mulL ?hs ?_); (case hs => omega))
  | ((with_reducible refine' Wp.mulR ?hs ?_); (case hs => omega))
  | ((with_reducible refine' Wp.powS ?hs ?_); (case hs => decide))
  | ((with_reducible refine' Wp.shr ?hs ?_); (case hs => decide))
  | ((with_reducible refine' Wp.szl ?hs ?_); (case hs => first | decide | (simp; done)))
  | ((with_reducible refine' Wp.lenL ?hs ?_); (case hs => first | exact SqL.of upd_same | exact SqL.of (by assumption) | assumption))
  | ((with_reducible refine' Wp.lenT ?hs ?_); (case hs => first | exact SqT.of upd_same | exact SqT.of (by assumption) | assumption))
  | ((with_reducible refine' Wp.iteC ?hs ?_); (case hs => exact rfl)) | ((with_reducible refine' Wp.iteD ?hs ?_); (case hs => exact Bool.false_ne_true))
  | ((with_reducible refine' Wp.wp ?hs ?_); (case hs => rfl))
  | (with_reducible first | refine Wp.abs ?_ | refine Wp.max2 ?_ | refine Wp.min2 ?_)
  | ((with_reducible refine' Wp.sll ?hs ?_); (case hs => first | exact SqL.of upd_same | exact SqL.of (by assumption) | assumption)))
local macro_rules | `(tactic| walk_at "KQ") => `(tactic| first
  | exact Wp.kq "int" rfl (by decide +kernel) | exact Wp.kq "bool" rfl (by decide +kernel) | exact Wp.kq "str" rfl (by decide +kernel) | exact Wp.kq "list" rfl (by decide +kernel)
  | exact Wp.kq "tuple" rfl (by decide +kernel) | exact Wp.kq "NoneType" rfl (by decide +kernel) | exact Wp.kq "dict" rfl (by decide +kernel))

section
variable {P : Program} {w : World} {K : PySem.W.Frag} {mg : Str → Option Value} {base : Heap}
/-- a drawn text over any signs -/
def spGText : Sp := fun vs H Q _ => ∃ a S m, vs = [.ref a, .str S, .int m] ∧ Src H a ∧ 0 < S.length ∧ S.length ≤ 8 ∧ 0 ≤ m ∧ m ≤ 200 ∧ ∀ H' z, Keep a H H' → Src H' a → (z.length : Int) ≤ m → over S z → Q (.str z) H'
theorem ok_gtext (B : Wp.Blt mg) {f fP : Addr} {fd fdP : FuncData} (F : Fun K "_law_text" "_law_text" s__law_text f fd) (D__law_pick : Wp.Dh K mg "_law_pick" fP fdP ["_law_source_here", "_law_many"])
    (G__law_pick : FnOk P w K mg base CX0 1 fP fdP ["_law_source_here", "_law_many"] spPick) : FnOk P w K mg base CX0 2 f fd ["_law_source_here", "_law_signs", "_law_most"] spGText := by
  refine F.ok sc__law_text (fun vs H Q E h => ?_) (fun cdv A outer s H vs Q E hr h => ?_)
  · obtain ⟨a, S, m, rfl, _⟩ := h
    rfl
  · obtain ⟨a, S, m, rfl, hs, hl0, hl8, h0, h1, q⟩ := h
    refine ⟨_, (pss_cons (ps_set (i := 3) sc__law_text.nd rfl (by first | exact .inl rfl | exact .inr rfl) pe_str)
  (pss_cons (ps_for PassesOwn.never rfl (pi_range1 (by rfl) B.range (pa_cons (pe_call G__law_pick (hr.mono (by decide)) (by rfl) D__law_pick.g D__law_pick.k D__law_pick.b .nil pass0 (pa_cons (pv 0) (pa_cons (pe_op (wo_add (K := K)) (pv 2) pe_int) pa_nil))) pa_nil)) (pg_name (i := 4) sc__law_text.nd rfl (by first | exact .inl rfl | exact .inr rfl)) (pss_one (ps_set (i := 3) sc__law_text.nd rfl (by first | exact .inl rfl | exact .inr rfl) (pe_op (wo_add (K := K)) (pv 3) (pe_ix (Wp.wx_seq (K := K)) (pv 1) (pe_call G__law_pick (hr.mono (by decide)) (by rfl) D__law_pick.g D__law_pick.k D__law_pick.b .nil pass0 (pa_cons (pv 0) (pa_cons (pe_callB (Wp.wc_len (K := K)) (by rfl) B.len (by decide +kernel) (pa_cons (pv 1) pa_nil)) pa_nil))) (fun _ _ => rfl))))))
  (pss_one (ps_ret (pv 3))))), ?_⟩
    refine Wp.st (σ' := [some (.ref a), some (.str S), some (.int m), none, none]) rfl ?_
    repeat walk_at "W"
    refine ⟨a, m + 1, rfl, hs, by omega, by omega, fun r H1 r0 r1 k1 s1 => ?_⟩
    repeat walk_at "W"
    refine ⟨r, rfl, by omega, by omega, ?_⟩
    refine Wp.forIt walk_range (fun i σ1 H2 => ∃ z x4, σ1 = [some (.ref a), some (.str S), some (.int m), some (.str z), x4] ∧ Keep a H H2 ∧ Src H2 a ∧ z.length = i ∧ over S z) ⟨"", _, rfl, k1, s1, rfl, fun x hx => by cases hx⟩ (fun _ _ _ _ _ => trivial) ?_ ?_
    · rintro i x σ1 H2 H2' hi ⟨z, x4, rfl, k2, s2, hz, hov⟩ ⟨rfl, rfl⟩
      repeat walk_at "W"
      refine Wp.lenS (Nat.le_of_lt (small1000 (by omega))) ?_
      repeat walk_at "W"
      refine ⟨a, S.length, rfl, s2, by omega, by omega, fun r2 H3 h20 h21 k3 s3 => ?_⟩
      obtain ⟨c, hc, hat⟩ := sg_ix h20 h21
      refine Wp.ixs (Nat.le_of_lt (small1000 (by omega))) hat ?_
      repeat walk_at "W"
      refine Wp.addS (Nat.le_of_lt (small1000 (by show z.length + 1 ≤ 1000; omega))) ?_
      repeat walk_at "W"
      refine ⟨_, _, rfl, k2.trans k3, s3, by rw [len_app]; show z.length + 1 = i + 1; omega, over_app hov hc⟩
    · rintro σ1 H2 ⟨z, x4, rfl, k2, s2, hz, hov⟩
      repeat walk_at "W"
      exact q _ _ k2 s2 (by omega) hov
/-- the sign that undoes a sign, by the rules -/
def spLUndo : Sp := fun vs H Q _ => ∃ (S : Str) (R : Addr) (bs : List Addr) (rs : List (Str × Str)) (b e : Nat → Nat × Nat) (pr : Nat → Nat → Option Nat) (inv : Nat → Nat), vs = [.str S, .ref R] ∧ S.length ≤ 8 ∧ H R = some (.tup (bs.map V.ref)) ∧ RulesAt H bs rs ∧ Gbk (cl S) b e pr rs ∧ Gpd (cl S) b e pr inv ∧ rs.length ≤ 64 ∧
  ∀ H' d, Same H H' → UnAt H' d (cl S) inv → Q (.ref d) H'
theorem ok_lundo (B : Wp.Blt mg) {f : Addr} {fd : FuncData} (F : Fun K "_law_undo" "_law_undo" s__law_undo f fd) : FnOk P w K mg base CX0 1 f fd ["_law_signs", "_law_rules"] spLUndo := by
  refine F.ok sc__law_undo (fun vs H Q E h => ?_) (fun cdv A outer s H vs Q E hr h => ?_)
  · obtain ⟨S, R, bs, rs, b, e, pr, inv, rfl, _⟩ := h
    rfl
  · obtain ⟨S, R, bs, rs, b, e, pr, inv, rfl, hl, hR, hrs, hG, g, h64, q⟩ := h
    refine ⟨_, (pss_cons (ps_set (i := 2) sc__law_undo.nd rfl (by first | exact .inl rfl | exact .inr rfl) pe_dnewK)
  (pss_cons (ps_for PassesOwn.never rfl (Wp.wi_tup (K := K) (pv 1)) (Wp.wg_tup (K := K) (n := 2) rfl (pgs_cons (pg_name (i := 3) sc__law_undo.nd rfl (by first | exact .inl rfl | exact .inr rfl)) (pgs_cons (pg_name (i := 4) sc__law_undo.nd rfl (by first | exact .inl rfl | exact .inr rfl)) pgs_nil))) (pss_one (ps_if (PW.pt (pw_and (pt_cmpR (wo_eq (K := K) hr.units) (pv 4) pe_str (nomark _)) (pw_and1 (pt_cmpR (wo_eq (K := K) hr.units) (pe_callB (Wp.wc_len (K := K)) (by rfl) B.len (by decide +kernel) (pa_cons (pv 3) pa_nil)) pe_int (nomark _))))) (pss_one (ps_dput (hu_of hr) (pv 2) (pe_ix (Wp.wx_seq (K := K)) (pv 3) pe_int (fun _ _ => rfl)) (pe_ix (Wp.wx_seq (K := K)) (pv 3) pe_int (fun _ _ => rfl)) rfl)) pss_nil)))
  (pss_one (ps_ret (pv 2))))), ?_⟩
    refine Wp.st (σ' := [some (.str S), some (.ref R), none, none, none]) rfl ?_
    have hbig : (1000000 : Nat) < sizeLine := by decide
    have hbl := hrs.len
    repeat walk_at "W"
    intro U hU
    have sU := Wp.same_upd (o := .dK []) hU
    repeat walk_at "W"
    refine ⟨⟨_, SqT.of (sU _ _ hR)⟩, Wp.forIt (walk_tup (xs := bs.map V.ref)) (fun i σ1 G => ∃ x3 x4 kvs, σ1 = [some (.str S), some (.ref R), some (.ref U), x3, x4] ∧ (∀ b' o, H b' = some o → G b' = some o) ∧ G U = some (.dK kvs) ∧ kvs.length ≤ i ∧ (∀ x v, x ∈ cl S → valV kvs (sk x) = some v → v = .str (mkS [inv x])) ∧ ∀ (j x : Nat), j < i → x ∈ cl S → rs[j]? = some (mkS [x, inv x], mkS []) → ∃ v, valV kvs (sk x) = some v) ⟨_, _, [], rfl, sU, upd_same, Nat.le_refl _, fun x v _ h => (nomatch h), fun j x h => absurd h (Nat.not_lt_zero _)⟩ (fun i σ1 G _ ⟨_, _, _, _, k, _⟩ => SqT.of (k _ _ hR)) ?_ ?_⟩
    · rintro i y σ1 G G' hi ⟨x3, x4, kvs, rfl, k1, hU1, hkl, hk1, hk2⟩ ⟨rfl, hx⟩
      rw [List.length_map] at hi
      rw [List.getElem?_map] at hx
      obtain ⟨bb, hbb, rfl⟩ := Option.map_eq_some_iff.mp hx
      have hr1 : rs[i]? = some rs[i] := List.getElem?_eq_getElem (by omega)
      generalize rs[i] = rl at hr1
      obtain ⟨l, r⟩ := rl
      obtain ⟨bb', hb1, hb2⟩ := hrs.get hr1
      rw [hbb] at hb1
      cases hb1
      obtain ⟨x, hxS, y, hyS, hc, e1⟩ := (hG.mem _).mp (List.mem_of_getElem? hr1)
      obtain ⟨rfl, rfl⟩ := Prod.mk.inj e1
      replace hb2 : H bb = some (.tup [.str (mkS [x, y]), .str (mkS (pr x y).toList)]) := hb2
      refine Wp.gt (SqT.of (k1 _ _ hb2)) rfl ?_
      repeat walk_at "W"
      cases hp : pr x y with
      | some u =>
        refine Wp.itd (fun e2 => ?_) (fun e2 => ?_)
        · have := congrArg Str.length e2
          rw [len_mk] at this
          exact absurd this (by show ¬ 1 = 0; decide)
        · repeat walk_at "W"
          refine ⟨_, _, kvs, rfl, k1, hU1, by omega, hk1, fun j x' hj hx' hr => ?_⟩
          rcases Nat.lt_or_ge j i with q1 | q1
          · exact hk2 j x' q1 hx' hr
          · have : j = i := by omega
            subst this
            rw [hr1, hp] at hr
            have := (Prod.mk.inj (Option.some.inj hr)).2
            have := mkS_inj this
            cases this
      | none =>
        have hyi := g.iu x hxS y hyS hc hp
        refine Wp.itd (fun e2 => ?_) (fun e2 => absurd rfl e2)
        repeat walk_at "W"
        refine Wp.lenS (by rw [len_mk]; show 2 ≤ _; omega) ?_
        repeat walk_at "W"
        refine Wp.ixs (by rw [len_mk]; show 2 ≤ _; omega) (show atI (mkS [x, y]).cps.toList 1 = some y from rfl) ?_
        repeat walk_at "W"
        refine Wp.ixs (by rw [len_mk]; show 2 ≤ _; omega) (show atI (mkS [x, y]).cps.toList 0 = some x from rfl) ?_
        refine Wp.dK_put hU1 (by omega) ?_
        refine ⟨_, _, _, rfl, fun b' o e => ?_, upd_same, ?_, fun x' v hx' hv => ?_, fun j x' hj hx' hr => ?_⟩
        · rw [upd_ne (fun q => by rw [q, hU] at e; cases e)]
          exact k1 _ _ e
        · have := length_putK kvs (Sum.inr (mkS [x])) (V.str (mkS [y]))
          exact Nat.le_trans this (by omega)
        · rw [valV_put] at hv
          split at hv
          · rename_i q1
            have q2 : x' = x := sk_inj q1
            cases hv
            rw [q2, ← hyi]
            rfl
          · exact hk1 x' v hx' hv
        · rw [valV_put]
          split
          · exact ⟨_, rfl⟩
          · rename_i q1
            rcases Nat.lt_or_ge j i with q2 | q2
            · exact hk2 j x' q2 hx' hr
            · have : j = i := by omega
              subst this
              rw [hr1] at hr
              have := mkS_inj (Prod.mk.inj (Option.some.inj hr)).1
              simp at this
              exact absurd (congrArg sk this.1.symm) q1
    · rintro σ1 G ⟨x3, x4, kvs, rfl, k1, hU1, hkl, hk1, hk2⟩
      repeat walk_at "W"
      refine q G U k1 ⟨kvs, hU1, fun x hx => ?_⟩
      obtain ⟨v1, v2, v3, v4, v5⟩ := g.iv x hx
      have hm := (hG.mem (mkS [x, inv x], mkS [])).mpr ⟨x, hx, inv x, v1, v2.symm, by rw [v4]; rfl⟩
      obtain ⟨j, hj, e⟩ := List.mem_iff_getElem.mp hm
      obtain ⟨v, hv⟩ := hk2 j x (by rw [List.length_map]; omega) hx (by rw [List.getElem?_eq_getElem hj, e])
      rw [hv, hk1 x v hx hv]
/-- a text, undone -/
def spLUndone : Sp := fun vs H Q _ => ∃ (S z : Str) (d : Addr) (inv : Nat → Nat), vs = [.ref d, .str z] ∧ UnAt H d (cl S) inv ∧ over S z ∧ z.length ≤ 1000 ∧ ∀ H', Same H H' → Q (.str (mkS (invT inv (cl z)))) H'
theorem ok_lundone (B : Wp.Blt mg) {f : Addr} {fd : FuncData} (F : Fun K "_law_undone" "_law_undone" s__law_undone f fd) : FnOk P w K mg base CX0 1 f fd ["_law_undo_here", "_law_text_here"] spLUndone := by
  refine F.ok sc__law_undone (fun vs H Q E h => ?_) (fun cdv A outer s H vs Q E hr h => ?_)
  · obtain ⟨S, z, d, inv, rfl, _⟩ := h
    rfl
  · obtain ⟨S, z, d, inv, rfl, hU, hov, hz, q⟩ := h
    refine ⟨_, (pss_one (ps_ret (Wp.wjoin (K := K) (pe_join pe_str (pe_lc (own := [("_law_sign", 2)]) (g := gName 2) (by rfl) sc__law_undone.nd (pi_str (Bk.pe_revS (pv 1))) (blkOk_by (own := [("_law_sign", 2)]) (N := N__law_undone) (sc := defScope s__law_undone) (by decide +kernel)) (fun _ _ _ _ _ => pg_name (i := 2) sc__law_undone.nd rfl (Or.inl rfl)) (fun _ _ _ _ _ => pts_nil) (fun _ _ _ _ _ => (pe_dget (hu_of hr) (pv 0) (pv 2) (fun _ _ => rfl)))))))), ?_⟩
    refine Wp.st (σ' := [some (.ref d), some (.str z), none]) rfl ?_
    have hbig : (1000000 : Nat) < sizeLine := by decide
    repeat walk_at "W"
    refine revS ?_
    repeat walk_at "W"
    refine ⟨by omega, _, rfl, fun A hA => ?_⟩
    obtain ⟨kvs, hd1, hd2⟩ := hU
    refine Wp.lcIt walk_str (fun i G => Same H G ∧ G A = some (.lst ((((cl z).reverse.take i).map inv).map ch))) ⟨Wp.same_upd hA, upd_same⟩ (fun _ _ _ _ => trivial) ?_ ?_
    · rintro i y G G' hi ⟨s1, hG⟩ ⟨rfl, c, hc, rfl⟩
      have hxc := str_at hc
      rw [cl_mk] at hxc
      have hcm := hov c (List.mem_reverse.mp (List.mem_of_getElem? hxc))
      have hi2 := (List.getElem?_eq_some_iff.mp hxc).1
      rw [List.length_reverse, len_cl] at hi2
      repeat walk_at "W"
      refine Wp.dK_get (s1 _ _ hd1) (hd2 c hcm) ?_
      refine ⟨_, hG, by rw [List.length_map, List.length_map, List.length_take]; omega, fun b' o e => ?_, ?_⟩
      · rw [upd_ne (fun q => by rw [q, hA] at e; cases e)]
        exact s1 _ _ e
      · rw [upd_same, List.take_add_one, hxc, List.map_append, List.map_append]
        rfl
    · rintro G ⟨s1, hG⟩
      rw [show (mkS (cl z).reverse).cps.size = (cl z).reverse.length from len_mk _, List.take_length] at hG
      repeat walk_at "W"
      refine joinC (SqL.of hG) (by rw [List.length_map, List.length_reverse, len_cl]; omega) ?_
      exact q G s1
/-- a text so many times, shrunk by the law's pile -/
def spLPower : Sp := fun vs H Q _ => ∃ (S z : Str) (R : Addr) (bs : List Addr) (rs : List (Str × Str)) (b e : Nat → Nat × Nat) (pr : Nat → Nat → Option Nat) (inv : Nat → Nat) (n : Nat), vs = [.ref R, .str z, .int n] ∧ H R = some (.tup (bs.map V.ref)) ∧ RulesAt H bs rs ∧ Gbk (cl S) b e pr rs ∧ Gpd (cl S) b e pr inv ∧ rs.length ≤ 64 ∧ over S z ∧ z.length ≤ 900 ∧ (∀ i, i < n → (overP rs (powT (cl z) i)).length + z.length ≤ 900) ∧ n ≤ 1000 ∧
  ∀ H', Same H H' → Q (.str (mkS (overP rs (powT (cl z) n)))) H'
theorem ok_lpower (B : Wp.Blt mg) {f fL : Addr} {fd fdL : FuncData} (F : Fun K "_law_power" "_law_power" s__law_power f fd)
    (D__law_left : Wp.Dh K mg "_law_left" fL fdL ["_law_rules", "_law_text_here"]) (G__law_left : FnOk P w K mg base CX0 1 fL fdL ["_law_rules", "_law_text_here"] spLLeft) : FnOk P w K mg base CX0 2 f fd ["_law_rules", "_law_text_here", "_law_number"] spLPower := by
  refine F.ok sc__law_power (fun vs H Q E h => ?_) (fun cdv A outer s H vs Q E hr h => ?_)
  · obtain ⟨S, z, R, bs, rs, b, e, pr, inv, n, rfl, _⟩ := h
    rfl
  · obtain ⟨S, z, R, bs, rs, b, e, pr, inv, n, rfl, hR, hrs, hG, g, h64, hov, hz9, hzn, hn, q⟩ := h
    refine ⟨_, (pss_cons (ps_set (i := 3) sc__law_power.nd rfl (by first | exact .inl rfl | exact .inr rfl) pe_str)
  (pss_cons (ps_for PassesOwn.never rfl (pi_range1 (by rfl) B.range (pa_cons (pv 2) pa_nil)) (pg_name (i := 4) sc__law_power.nd rfl (by first | exact .inl rfl | exact .inr rfl)) (pss_one (ps_set (i := 3) sc__law_power.nd rfl (by first | exact .inl rfl | exact .inr rfl) (pe_call G__law_left (hr.mono (by decide)) (by rfl) D__law_left.g D__law_left.k D__law_left.b .nil pass0 (pa_cons (pv 0) (pa_cons (pe_op (wo_add (K := K)) (pv 3) (pv 1)) pa_nil))))))
  (pss_one (ps_ret (pv 3))))), ?_⟩
    refine Wp.st (σ' := [some (.ref R), some (.str z), some (.int n), none, none]) rfl ?_
    have hbig : (1000000 : Nat) < sizeLine := by decide
    repeat walk_at "W"
    refine ⟨(n : Nat), rfl, by omega, by omega, ?_⟩
    refine Wp.forIt walk_range (fun i σ1 G => ∃ x4, σ1 = [some (.ref R), some (.str z), some (.int n), some (.str (mkS (overP rs (powT (cl z) i)))), x4] ∧ Same H G) ⟨_, by rw [show overP rs (powT (cl z) 0) = [] from hG.nil]; rfl, Same.refl _⟩ (fun _ _ _ _ _ => trivial) ?_ ?_
    · rintro i y σ1 G G' hi ⟨x4, rfl, s1⟩ ⟨rfl, hx⟩
      rw [Int.toNat_natCast] at hi
      have hm1 := hzn i hi
      have ecl : cl (mkS (overP rs (powT (cl z) i)) ++ z) = overP rs (powT (cl z) i) ++ cl z := by rw [show cl (mkS (overP rs (powT (cl z) i)) ++ z) = cl (mkS (overP rs (powT (cl z) i))) ++ cl z from TL.tl_append _ _, cl_mk]
      repeat walk_at "W"
      refine Wp.addS (by rw [len_mk]; omega) ?_
      repeat walk_at "W"
      refine ⟨R, bs, rs, _, rfl, .inr (s1 _ _ hR), hrs.same s1, h64, hG.good, by rw [← len_cl, ecl, List.length_append, len_cl]; omega, fun G2 s2 => ?_⟩
      rw [ecl, show overP rs (overP rs (powT (cl z) i) ++ cl z) = overP rs (powT (cl z) (i + 1)) from hG.app g (hG.nn _) rfl]
      repeat walk_at "W"
      exact ⟨_, rfl, s1.trans s2⟩
    · rintro σ1 G ⟨x4, rfl, s1⟩
      rw [Int.toNat_natCast]
      repeat walk_at "W"
      exact q G s1
end
end K57
set_option Elab.async false
set_option linter.all false
set_option maxRecDepth 100000
set_option maxHeartbeats 8000000
namespace K57
open PySem PySem.Spec PyProof.Rows L2 Bk
open Wp (Keep wo_lt wo_le wo_gt wo_ge wo_eq wo_ne wo_in wo_nin wo_add wo_mul op_shlB ws_any wc_int wc_isi u65)
local macro_rules | `(tactic| walk_at "W") => `(tactic| first
  | (with_reducible first
    | refine Wp.seq ?_ | refine Wp.asg ?_ | refine Wp.ret ?_ | refine Wp.retN ?_ | refine Wp.drop ?_ | refine Wp.nxt ?_ | refine Wp.ifs ?_ | refine Wp.gname ?_
    | refine Wp.op ?_ | refine Wp.un ?_ | refine Wp.tst ?_ | refine Wp.tb' ?_ | refine Wp.tnot ?_ | refine Wp.tand ?_ | refine Wp.tor ?_ | refine Wp.tandV ?_ | refine Wp.torV ?_ | refine Wp.tnotV ?_ | refine Wp.tif ?_ | refine Wp.tchain ?_
    | refine Wp.cb ?_ | refine Wp.call ?_ | refine Wp.cons ?_ | refine Wp.nil ?_ | refine Wp.gsub ?_ | refine Wp.cst ?_ | refine Wp.i0 ?_ | refine Wp.int1 ?_ | refine Wp.eb ?_ | refine Wp.ei ?_
    | refine Wp.gnil ?_ | refine Wp.gcons ?_ | refine Wp.mko ?_ | refine Wp.bm ?_ | refine Wp.ienum ?_ | refine Wp.tru ?_ | refine Wp.u1 ?_ | refine Wp.for_ ?_ | refine Wp.lc ?_ | refine Wp.istr ?_ | refine Wp.ilist ?_ | refine Wp.itup ?_ | refine Wp.irng1 ?_ | refine Wp.irng2 ?_ | refine Wp.yes ?_ | refine Wp.es ?_ | refine Wp.er ?_ | refine Wp.sl ?_ | refine Wp.nopart ?_ | refine Wp.part ?_ | refine Wp.lst ?_ | refine Wp.tup ?_
    | refine Wp.din ?_ | refine Wp.dnotin ?_ | refine Wp.dget ?_ | refine Wp.dget2 ?_ | refine Wp.dput ?_ | refine Wp.dnewK ?_ | refine Wp.dnewT ?_ | refine Wp.bm0 ?_ | refine Wp.m1 ?_ | refine Wp.exs ?_ | refine Wp.is0 ?_ | refine Wp.isnot0 ?_ | refine Wp.fld ?_ | refine Wp.sfld ?_
    | refine Wp.par ?_ | refine Wp.parV ?_ | refine Wp.brk ?_ | refine Wp.aug ?_ | refine Wp.ipaI ?_ | refine Wp.ipsI ?_ | refine Bk.ienumS ?_ | refine Wp.make_ ?_ | refine Wp.itnn ?_ | refine Wp.ltI ?_ | refine Wp.leI ?_ | refine Wp.leS ?_ | refine Wp.inSg ?_ | refine Wp.gtI ?_ | refine Wp.geI ?_ | refine Wp.eqI ?_ | refine Wp.neI ?_ | refine Wp.addI ?_ | refine Wp.ltS ?_ | refine Wp.eqS ?_ | refine Wp.neS ?_)
  | ((with_reducible refine' Wp.var ?hv ?_); (case hv => exact rfl))
  | ((with_reducible refine' Wp.ixl ?hs ?he ?_); (case hs => first | exact SqL.of upd_same | exact SqL.of (by assumption) | assumption); (case he => exact rfl))
  | ((with_reducible refine' Wp.setl ?hs ?he ?_); (case hs => first | exact upd_same | assumption); (case he => exact rfl))
  | ((with_reducible refine' Wp.modP ?hs ?_); (case hs => first | decide | omega))
  | ((with_reducible refine' Wp.divN ?hs ?ht ?_); (case hs => first | decide | omega); (case ht => first | decide | omega))
  | ((with_reducible refine' Wp.mulM ?hs ?ht ?_); (case hs => decide); (case ht => decide))
  | ((with_reducible refine' Wp.mulL ?hs ?_); (case hs => omega))
  | ((with_reducible refine' Wp.mulR ?hs ?_); (case hs => omega))
  | ((with_reducible refine' Wp.powS ?hs ?_); (case hs => decide))
  | ((with_reducible refine' Wp.shr ?hs ?_); (case hs => decide))
  | ((with_reducible refine' Wp.szl ?hs ?_); (case hs => first | decide | (simp; done)))
  | ((with_reducible refine' Wp.lenL ?hs ?_); (case hs => first | exact SqL.of upd_same | exact SqL.of (by assumption) | assumption))
  | ((with_reducible refine' Wp.lenT ?hs ?_); (case hs => first | exact SqT.of upd_same | exact SqT.of (by assumption) | assumption))
  | ((with_reducible refine' Wp.iteC ?hs ?_); (case hs => exact rfl)) | ((with_reducible refine' Wp.iteD ?hs ?_); (case hs => exact Bool.false_ne_true))
  | ((with_reducible refine' Wp.wp ?hs ?_); (case hs => rfl))
  | (with_reducible first | refine Wp.abs ?_ | refine Wp.max2 ?_ | refine Wp.min2 ?_)
  | ((with_reducible refine' Wp.sll ?hs ?_); (case hs => first | exact SqL.of upd_same | exact SqL.of (by assumption) | assumption)))
local macro_rules | `(tactic| walk_at "KQ") => `(tactic| first
  | exact Wp.kq "int" rfl (by decide +kernel) | exact Wp.kq "bool" rfl (by decide +kernel) | exact Wp.kq "str" rfl (by decide +kernel) | exact Wp.kq "list" rfl (by decide +kernel)
  | exact Wp.kq "tuple" rfl (by decide +kernel) | exact Wp.kq "NoneType" rfl (by decide +kernel) | exact Wp.kq "dict" rfl (by decide +kernel))

theorem dk_src {H : Hp} {a b : Addr} {kvs : List (Key × V)} (hs : Src H a) (h : H b = some (.dK kvs)) : b ≠ a := fun e => by
  obtain ⟨d, s, c, e2⟩ := hs
  rw [e, e2] at h; cases h
theorem tup_src {H : Hp} {a b : Addr} {xs : List V} (hs : Src H a) (h : H b = some (.tup xs)) : b ≠ a := fun e => by
  obtain ⟨d, s, c, e2⟩ := hs
  rw [e, e2] at h; cases h
theorem Grp.keepS {H H' : Hp} {a : Addr} {S : Str} {sh : List (Nat × Nat)} {As : List Arw} {rs : List (Str × Str)} {R D : Addr} (hs : Src H a) (k : Keep a H H') (h : Grp H S sh As rs R D) : Grp H' S sh As rs R D := by
  have tp : ∀ b xs, H b = some (.tup xs) → H' b = some (.tup xs) := fun b xs e => k _ _ (tup_src hs e) e
  obtain ⟨bs, h1, h2⟩ := h.rok
  obtain ⟨kvs, h3, h4⟩ := h.arw
  exact ⟨h.sg, h.good, h.le, h.bk, ⟨bs, tp _ _ h1, rulesAt_keep tp h2⟩, ⟨kvs, k _ _ (dk_src hs h3) h3, fun x hx => by
    obtain ⟨b, q1, q2⟩ := h4 x hx
    exact ⟨b, q1, tp _ _ q2⟩⟩⟩
theorem UnAt.keepS {H H' : Hp} {a d : Addr} {sg : List Nat} {inv : Nat → Nat} (hs : Src H a) (k : Keep a H H') (h : UnAt H d sg inv) : UnAt H' d sg inv := by
  obtain ⟨kvs, h1, h2⟩ := h
  exact ⟨kvs, k _ _ (dk_src hs h1) h1, h2⟩
theorem over_cat {S y z : Str} (h : over S y) (k : over S z) : over S (y ++ z) := fun c hc => by
  rw [show cl (y ++ z) = cl y ++ cl z from TL.tl_append _ _] at hc
  rcases List.mem_append.mp hc with q | q
  · exact h c q
  · exact k c q
section
variable {P : Program} {w : World} {K : PySem.W.Frag} {mg : Str → Option Value} {base : Heap}
/-- a text of a groupoid: a drawn one, a loop, a power, turned or not, shrunk or not -/
def spGTxt : Sp := fun vs H Q _ => ∃ (a : Addr) (S : Str) (sh : List (Nat × Nat)) (As : List Arw) (rs : List (Str × Str)) (R D U : Addr), vs = [.ref a, .str S, .ref R, .ref U, .ref D] ∧ Src H a ∧ 0 < S.length ∧ rs.length ≤ 64 ∧ Grp H S sh As rs R D ∧ UnAt H U (cl S) (invS sh (cl S) As) ∧
  ∀ H' z, Keep a H H' → Src H' a → z.length ≤ 13 → over S z → Q (.str z) H'
theorem ok_gtxt (B : Wp.Blt mg) {f fP fT fU fL : Addr} {fd fdP fdT fdU fdL : FuncData} (F : Fun K "_law_group_text" "_law_group_text" s__law_group_text f fd)
    (D__law_pick : Wp.Dh K mg "_law_pick" fP fdP ["_law_source_here", "_law_many"]) (G__law_pick : FnOk P w K mg base CX0 1 fP fdP ["_law_source_here", "_law_many"] spPick)
    (D__law_text : Wp.Dh K mg "_law_text" fT fdT ["_law_source_here", "_law_signs", "_law_most"]) (G__law_text : FnOk P w K mg base CX0 2 fT fdT ["_law_source_here", "_law_signs", "_law_most"] spGText)
    (D__law_undone : Wp.Dh K mg "_law_undone" fU fdU ["_law_undo_here", "_law_text_here"]) (G__law_undone : FnOk P w K mg base CX0 1 fU fdU ["_law_undo_here", "_law_text_here"] spLUndone)
    (D__law_left : Wp.Dh K mg "_law_left" fL fdL ["_law_rules", "_law_text_here"]) (G__law_left : FnOk P w K mg base CX0 1 fL fdL ["_law_rules", "_law_text_here"] spLLeft) : FnOk P w K mg base CX0 3 f fd ["_law_source_here", "_law_signs", "_law_rules", "_law_undo_here", "_law_arrow_of"] spGTxt := by
  refine F.ok sc__law_group_text (fun vs H Q E h => ?_) (fun cdv A outer s H vs Q E hr h => ?_)
  · obtain ⟨a, S, sh, As, rs, R, D, U, rfl, _⟩ := h
    rfl
  · obtain ⟨a, S, sh, As, rs, R, D, U, rfl, hs, hl0, h64, hGr, hU, q⟩ := h
    refine ⟨_, (pss_cons (ps_set (i := 5) sc__law_group_text.nd rfl (by first | exact .inl rfl | exact .inr rfl) (pe_call G__law_pick (hr.mono (by decide)) (by rfl) D__law_pick.g D__law_pick.k D__law_pick.b .nil pass0 (pa_cons (pv 0) (pa_cons pe_int pa_nil))))
  (pss_cons (ps_setLc (i := 7) (own := [("_law_sign", 6)]) (g := gName 6) (by rfl) sc__law_group_text.nd rfl rfl (sw_true rfl rfl rfl (by decide +kernel)) (pi_str (pv 1)) (blkOk_by (own := [("_law_sign", 6)]) (N := N__law_group_text) (sc := defScope s__law_group_text) (by decide +kernel)) (fun _ _ _ _ _ => pg_name (i := 6) sc__law_group_text.nd rfl (Or.inl rfl)) (fun _ _ _ _ _ => pts_one (pt_cmpR (wo_eq (K := K) hr.units) (pe_ix (Wp.wx_seq (K := K)) (pe_dget (hu_of hr) (pv 4) (pv 6) (fun _ _ => rfl)) pe_int (fun _ _ => rfl)) (pe_ix (Wp.wx_seq (K := K)) (pe_dget (hu_of hr) (pv 4) (pv 6) (fun _ _ => rfl)) pe_int (fun _ _ => rfl)) (nomark _))) (fun _ _ _ _ _ => (pv 6)))
  (pss_cons (ps_set (i := 8) sc__law_group_text.nd rfl (by first | exact .inl rfl | exact .inr rfl) (pe_call G__law_text (hr.mono (by decide)) (by rfl) D__law_text.g D__law_text.k D__law_text.b .nil pass0 (pa_cons (pv 0) (pa_cons (pv 1) (pa_cons pe_int pa_nil)))))
  (pss_cons (ps_if (PW.pt (pw_and (pt_cmpR wo_lt (pv 5) pe_int (nomark _)) (pw_and1 (Wp.wt_truth (K := K) (pv 7) (by intro _; rfl))))) (pss_one (ps_set (i := 8) sc__law_group_text.nd rfl (by first | exact .inl rfl | exact .inr rfl) (pe_ix (Wp.wx_seq (K := K)) (pv 7) (pe_call G__law_pick (hr.mono (by decide)) (by rfl) D__law_pick.g D__law_pick.k D__law_pick.b .nil pass0 (pa_cons (pv 0) (pa_cons (pe_callB (Wp.wc_len (K := K)) (by rfl) B.len (by decide +kernel) (pa_cons (pv 7) pa_nil)) pa_nil))) (fun _ _ => rfl)))) (pss_one (ps_if (pt_cmpR (wo_eq (K := K) hr.units) (pv 5) pe_int (nomark _)) (pss_one (ps_set (i := 8) sc__law_group_text.nd rfl (by first | exact .inl rfl | exact .inr rfl) (pe_op Bk.wo_repS (pv 8) (pe_op (wo_add (K := K)) pe_int (pe_call G__law_pick (hr.mono (by decide)) (by rfl) D__law_pick.g D__law_pick.k D__law_pick.b .nil pass0 (pa_cons (pv 0) (pa_cons pe_int pa_nil))))))) pss_nil)))
  (pss_cons (ps_set (i := 9) sc__law_group_text.nd rfl (by first | exact .inl rfl | exact .inr rfl) (pe_ifExp (pt_cmpR wo_gt (pe_call G__law_pick (hr.mono (by decide)) (by rfl) D__law_pick.g D__law_pick.k D__law_pick.b .nil pass0 (pa_cons (pv 0) (pa_cons pe_int pa_nil))) pe_int (nomark _)) (pe_call G__law_text (hr.mono (by decide)) (by rfl) D__law_text.g D__law_text.k D__law_text.b .nil pass0 (pa_cons (pv 0) (pa_cons (pv 1) (pa_cons pe_int pa_nil)))) pe_str))
  (pss_cons (ps_set (i := 10) sc__law_group_text.nd rfl (by first | exact .inl rfl | exact .inr rfl) (pe_op (wo_add (K := K)) (pe_op (wo_add (K := K)) (pv 9) (pv 8)) (pe_call G__law_undone (hr.mono (by decide)) (by rfl) D__law_undone.g D__law_undone.k D__law_undone.b .nil pass0 (pa_cons (pv 3) (pa_cons (pv 9) pa_nil)))))
  (pss_one (ps_ret (pe_ifExp (pt_cmpR (wo_eq (K := K) hr.units) (pe_call G__law_pick (hr.mono (by decide)) (by rfl) D__law_pick.g D__law_pick.k D__law_pick.b .nil pass0 (pa_cons (pv 0) (pa_cons pe_int pa_nil))) pe_int (nomark _)) (pv 10) (pe_call G__law_left (hr.mono (by decide)) (by rfl) D__law_left.g D__law_left.k D__law_left.b .nil pass0 (pa_cons (pv 2) (pa_cons (pv 10) pa_nil)))))))))))), ?_⟩
    refine Wp.st (σ' := [some (.ref a), some (.str S), some (.ref R), some (.ref U), some (.ref D), none, none, none, none, none, none]) rfl ?_
    have hbig : (1000000 : Nat) < sizeLine := by decide
    have hl8 := hGr.le
    have g := hGr.sg.gpd
    repeat walk_at "W"
    refine ⟨a, 6, rfl, hs, by decide, by decide, fun wy H1 w0 w1 k1 s1 => ?_⟩
    repeat walk_at "W"
    have hG1 := hGr.keepS hs k1
    have hU1 := UnAt.keepS hs k1 hU
    obtain ⟨kvs, hk1, hk2⟩ := hG1.arw
    intro A hA
    refine Wp.lcIt walk_str (fun i G => Same H1 G ∧ ∃ ls : List Nat, G A = some (.lst (ls.map ch)) ∧ ls.length ≤ i ∧ ∀ c ∈ ls, c ∈ cl S) ⟨Wp.same_upd hA, [], upd_same, Nat.le_refl _, fun _ h => nomatch h⟩ (fun _ _ _ _ => trivial) ?_ ?_
    · rintro i y G G' hi ⟨s2, ls, hls, hll, hlm⟩ ⟨rfl, c, hc, rfl⟩
      have hxc := str_at hc
      have hm := List.mem_of_getElem? hxc
      have hi8 : i < S.length := hi
      obtain ⟨b, hv, hb⟩ := hk2 c hm
      repeat walk_at "W"
      refine Wp.dK_get (s2 _ _ hk1) hv ?_
      refine Wp.ixt (SqT.of (s2 _ _ hb)) (nv_at (r := arR (arwOf (cl S) As c)) (i := 1) (n := (arwOf (cl S) As c).2.1) rfl) ?_
      repeat walk_at "W"
      refine Wp.dK_get (s2 _ _ hk1) hv ?_
      refine Wp.ixt (SqT.of (s2 _ _ hb)) (nv_at (r := arR (arwOf (cl S) As c)) (i := 3) (n := (arwOf (cl S) As c).2.2.2) rfl) ?_
      refine Wp.eqI ?_
      refine ⟨_, rfl, Wp.itd (fun e1 => ?_) (fun e1 => ?_)⟩
      · repeat walk_at "W"
        refine ⟨_, hls, by rw [List.length_map]; omega, fun b' o e => ?_, ls ++ [c], by rw [List.map_append]; exact upd_same, by rw [List.length_append]; simp; omega, fun d hd => ?_⟩
        · rw [upd_ne (fun q => by rw [q, hA] at e; cases e)]
          exact s2 _ _ e
        · rcases List.mem_append.mp hd with z | z
          · exact hlm d z
          · rw [List.mem_singleton.mp z]; exact hm
      · exact ⟨s2, ls, hls, by omega, hlm⟩
    · rintro G ⟨s2, ls, hls, hll, hlm⟩
      have hll8 : ls.length ≤ 8 := Nat.le_trans hll hl8
      have hsG : Src G a := by
        obtain ⟨d, s, c, e⟩ := s1
        exact ⟨d, s, c, s2 _ _ e⟩
      have hAa : A ≠ a := fun e => by
        obtain ⟨d, s, c, e2⟩ := s1
        rw [e, e2] at hA; cases hA
      have kG : Keep a H G := fun b o hb e => s2 _ _ (k1 b o hb e)
      repeat walk_at "W"
      refine ⟨a, S, 3, rfl, hsG, hl0, hl8, by decide, by decide, fun H2 m k3 s3 hml hmo => ?_⟩
      have hls2 := k3 _ _ hAa hls
      refine Wp.gname ?_
      dsimp only
      with_reducible refine Wp.cutQ (fun σ' H' => ∃ m, σ' = [some (.ref a), some (.str S), some (.ref R), some (.ref U), some (.ref D), some (.int wy), none, some (.ref A), some (.str m), none, none] ∧ Keep a H2 H' ∧ Src H' a ∧ m.length ≤ 9 ∧ over S m) (fun nx hn => ?_) ?_
      · have alt : tIfS (tTest (tOp (Wp.rEqU K) (tVar 5) (tC (V.int 2)))) (tAsg (tOp rRepS (tVar 8) (tOp (Wp.rAddU K) (tC (V.int 1)) (tCall spPick [] E0 (tCons (tVar 0) (tCons (tC (V.int 3)) tNil))))) (gName 8)) tNext { nx := nx, rt := Q } [some (.ref a), some (.str S), some (.ref R), some (.ref U), some (.ref D), some (.int wy), none, some (.ref A), some (.str m), none, none] H2 := by
          repeat walk_at "W"
          refine Wp.itd (fun e1 => ?_) (fun e1 => ?_)
          · repeat walk_at "W"
            refine ⟨a, 3, rfl, s3, by decide, by decide, fun r H3 r0 r1 k4 s4 => ?_⟩
            obtain ⟨n, rfl⟩ := Int.eq_ofNat_of_zero_le r0
            repeat walk_at "W"
            have en : (1 : Int) + ((n : Nat) : Int) = ((n + 1 : Nat) : Int) := by omega
            rw [en]
            refine ⟨m, _, rfl, rfl, mulT_ok (by omega) (by omega), ?_⟩
            have hml3 : m.length ≤ 3 := by omega
            repeat walk_at "W"
            refine hn _ _ ⟨_, rfl, k4, s4, ?_, fun c hc => ?_⟩
            · rw [← len_cl, mulT_cl, powT_len, len_cl]
              exact Nat.mul_le_mul (show n + 1 ≤ 3 by omega) hml3
            · rw [mulT_cl] at hc
              exact hmo c (powT_mem hc)
          · repeat walk_at "W"
            exact hn _ _ ⟨m, rfl, fun _ _ _ e => e, s3, by omega, hmo⟩
        repeat walk_at "W"
        refine Wp.itd (fun e1 => ?_) (fun e1 => ?_)
        · refine ⟨_, rfl, _, .inl ⟨_, SqL.of hls2, rfl⟩, ?_⟩
          cases ls with
          | nil =>
            refine Wp.iteD (by decide) ?_
            exact alt
          | cons c0 ls =>
            refine Wp.iteC rfl ?_
            repeat walk_at "W"
            refine ⟨a, _, rfl, s3, ?_, ?_, fun r H3 r0 r1 k4 s4 => ?_⟩
            · simp only [List.length_map, List.length_cons]; omega
            · rw [List.length_map]; omega
            rw [List.length_map] at r1
            obtain ⟨n, rfl⟩ := Int.eq_ofNat_of_zero_le r0
            obtain ⟨c, hc⟩ : ∃ c, (c0 :: ls)[n]? = some c := ⟨_, List.getElem?_eq_getElem (by omega)⟩
            refine Wp.ixl (SqL.of (k4 _ _ hAa hls2)) (atI_nat (by rw [List.getElem?_map, hc]; rfl)) ?_
            repeat walk_at "W"
            refine hn _ _ ⟨⟨#[c]⟩, rfl, k4, s4, by show 1 ≤ 9; decide, fun d hd => ?_⟩
            rw [show cl (⟨#[c]⟩ : Str) = [c] from rfl, List.mem_singleton] at hd
            rw [hd]
            exact hlm c (List.mem_of_getElem? hc)
        · refine Wp.iteD Bool.false_ne_true ?_
          exact alt
      rintro σ' H3 ⟨m2, rfl, k4, s4, hml2, hmo2⟩
      have kH3 : Keep a H H3 := (kG.trans k3).trans k4
      refine Wp.cutQ (fun σ' H' => ∃ y, σ' = [some (.ref a), some (.str S), some (.ref R), some (.ref U), some (.ref D), some (.int wy), none, some (.ref A), some (.str m2), some (.str y), none] ∧ Keep a H3 H' ∧ Src H' a ∧ y.length ≤ 2 ∧ over S y) (fun nx hn => ?_) ?_
      · repeat walk_at "W"
        refine ⟨a, 3, rfl, s4, by decide, by decide, fun r H4 r0 r1 k5 s5 => ?_⟩
        repeat walk_at "W"
        refine Wp.itd (fun e1 => ?_) (fun e1 => ?_)
        · repeat walk_at "W"
          refine ⟨a, S, 2, rfl, s5, hl0, hl8, by decide, by decide, fun H5 y k6 s6 hyl hyo => ?_⟩
          repeat walk_at "W"
          exact hn _ _ ⟨y, rfl, k5.trans k6, s6, by omega, hyo⟩
        · repeat walk_at "W"
          exact hn _ _ ⟨"", rfl, k5, s5, by show 0 ≤ 2; decide, fun c hc => nomatch (hc : c ∈ ([] : List Nat))⟩
      rintro σ' H4 ⟨y, rfl, k5, s5, hyl, hyo⟩
      have kH4 : Keep a H H4 := kH3.trans k5
      have hU4 := UnAt.keepS hs kH4 hU
      have hG4 := hGr.keepS hs kH4
      have hil : (invT (invS sh (cl S) As) (cl y)).length = y.length := by
        unfold invT
        rw [List.length_map, List.length_reverse, len_cl]
      have him := g.inv_mem hyo
      repeat walk_at "W"
      refine Wp.addS (by omega) ?_
      repeat walk_at "W"
      refine ⟨S, y, U, _, rfl, hU4, hyo, by omega, fun H5 s6 => ?_⟩
      refine Wp.addS (by rw [len_app, len_mk, hil]; omega) ?_
      have hzl : (y ++ m2 ++ mkS (invT (invS sh (cl S) As) (cl y))).length ≤ 13 := by
        rw [len_app, len_app, len_mk, hil]; omega
      have hzo : over S (y ++ m2 ++ mkS (invT (invS sh (cl S) As) (cl y))) := over_cat (over_cat hyo hmo2) fun c hc => him c (by rw [← cl_mk (invT _ _)]; exact hc)
      generalize y ++ m2 ++ mkS (invT (invS sh (cl S) As) (cl y)) = z at hzl hzo
      have s6' : Src H5 a := by
        obtain ⟨d, s, c, e⟩ := s5
        exact ⟨d, s, c, s6 _ _ e⟩
      have kH5 : Keep a H H5 := fun b' o hb e => s6 _ _ (kH4 b' o hb e)
      repeat walk_at "W"
      refine ⟨a, 2, rfl, s6', by decide, by decide, fun r H6 r0 r1 k7 s7 => ?_⟩
      have kH6 : Keep a H H6 := kH5.trans k7
      repeat walk_at "W"
      refine Wp.itd (fun e1 => ?_) (fun e1 => ?_)
      · repeat walk_at "W"
        exact q H6 z kH6 s7 hzl hzo
      · obtain ⟨bs, hR6, hrs6⟩ := (hGr.keepS hs kH6).rok
        repeat walk_at "W"
        refine ⟨R, bs, rs, z, rfl, .inr hR6, hrs6, h64, hGr.bk.good, by omega, fun H7 s8 => ?_⟩
        obtain ⟨om, ol⟩ := hGr.bk.over_mem g hzo
        rw [len_cl] at ol
        refine q H7 _ (fun b' o hb e => s8 _ _ (kH6 b' o hb e)) ?_ (by rw [len_mk]; omega) fun c hc => om c (by rw [← cl_mk (overP _ _)]; exact hc)
        obtain ⟨d, s, c, e⟩ := s7
        exact ⟨d, s, c, s8 _ _ e⟩
end
end K57
set_option Elab.async false
set_option linter.all false
set_option maxRecDepth 100000
set_option maxHeartbeats 8000000
namespace K57
open PySem PySem.Spec PyProof.Rows L2 Bk
open Wp (Keep wo_lt wo_le wo_gt wo_ge wo_eq wo_ne wo_in wo_nin wo_add wo_mul op_shlB ws_any wc_int wc_isi u65)
abbrev s_Arrows_undone_text : Stmt := inClass (topS 42) 1
abbrev N_Arrows_undone_text : List Str := ["self", "text", "sign"]
theorem sc_Arrows_undone_text : FnScope N_Arrows_undone_text ["self", "text"] (defScope s_Arrows_undone_text) := ⟨rfl, rfl, rfl, by decide +kernel, rfl, by decide +kernel, by decide +kernel⟩
abbrev s_inner_root : Stmt := topS 50
abbrev N_inner_root : List Str := ["inner"]
theorem sc_inner_root : FnScope N_inner_root ["inner"] (defScope s_inner_root) := ⟨rfl, rfl, rfl, by decide +kernel, rfl, by decide +kernel, by decide +kernel⟩
abbrev s_HasOrder___init__ : Stmt := inClass (topS 11) 0
abbrev N_HasOrder___init__ : List Str := ["self", "number"]
theorem sc_HasOrder___init__ : FnScope N_HasOrder___init__ ["self", "number"] (defScope s_HasOrder___init__) := ⟨rfl, rfl, rfl, by decide +kernel, rfl, by decide +kernel, by decide +kernel⟩
abbrev s_root : Stmt := topS 51
abbrev N_root : List Str := ["book", "text", "arrows", "ahead", "inner", "number", "piece"]
theorem sc_root : FnScope N_root ["book", "text"] (defScope s_root) := ⟨rfl, rfl, rfl, by decide +kernel, rfl, by decide +kernel, by decide +kernel⟩
abbrev s__law_times : Stmt := topS 68
abbrev N__law_times : List Str := ["_law_rules", "_law_text_here", "_law_core", "_law_turn", "_law_moved", "_law_size"]
theorem sc__law_times : FnScope N__law_times ["_law_rules", "_law_text_here"] (defScope s__law_times) := ⟨rfl, rfl, rfl, by decide +kernel, rfl, by decide +kernel, by decide +kernel⟩
local macro_rules | `(tactic| walk_at "W") => `(tactic| first
  | (with_reducible first
    | refine Wp.seq ?_ | refine Wp.asg ?_ | refine Wp.ret ?_ | refine Wp.retN ?_ | refine Wp.drop ?_ | refine Wp.nxt ?_ | refine Wp.ifs ?_ | refine Wp.gname ?_
    | refine Wp.op ?_ | refine Wp.un ?_ | refine Wp.tst ?_ | refine Wp.tb' ?_ | refine Wp.tnot ?_ | refine Wp.tand ?_ | refine Wp.tor ?_ | refine Wp.tandV ?_ | refine Wp.torV ?_ | refine Wp.tnotV ?_ | refine Wp.tif ?_ | refine Wp.tchain ?_
    | refine Wp.cb ?_ | refine Wp.call ?_ | refine Wp.cons ?_ | refine Wp.nil ?_ | refine Wp.gsub ?_ | refine Wp.cst ?_ | refine Wp.i0 ?_ | refine Wp.int1 ?_ | refine Wp.eb ?_ | refine Wp.ei ?_
    | refine Wp.gnil ?_ | refine Wp.gcons ?_ | refine Wp.mko ?_ | refine Wp.bm ?_ | refine Wp.ienum ?_ | refine Wp.tru ?_ | refine Wp.u1 ?_ | refine Wp.for_ ?_ | refine Wp.lc ?_ | refine Wp.istr ?_ | refine Wp.ilist ?_ | refine Wp.itup ?_ | refine Wp.irng1 ?_ | refine Wp.irng2 ?_ | refine Wp.yes ?_ | refine Wp.es ?_ | refine Wp.er ?_ | refine Wp.sl ?_ | refine Wp.nopart ?_ | refine Wp.part ?_ | refine Wp.lst ?_ | refine Wp.tup ?_
    | refine Wp.din ?_ | refine Wp.dnotin ?_ | refine Wp.dget ?_ | refine Wp.dget2 ?_ | refine Wp.dput ?_ | refine Wp.dnewK ?_ | refine Wp.dnewT ?_ | refine Wp.bm0 ?_ | refine Wp.m1 ?_ | refine Wp.exs ?_ | refine Wp.is0 ?_ | refine Wp.isnot0 ?_ | refine Wp.fld ?_ | refine Wp.sfld ?_
    | refine Wp.par ?_ | refine Wp.parV ?_ | refine Wp.brk ?_ | refine Wp.aug ?_ | refine Wp.ipaI ?_ | refine Wp.ipsI ?_ | refine Bk.ienumS ?_ | refine Wp.make_ ?_ | refine Wp.itnn ?_ | refine Wp.ltI ?_ | refine Wp.leI ?_ | refine Wp.leS ?_ | refine Wp.inSg ?_ | refine Wp.gtI ?_ | refine Wp.geI ?_ | refine Wp.eqI ?_ | refine Wp.neI ?_ | refine Wp.addI ?_ | refine Wp.ltS ?_ | refine Wp.eqS ?_ | refine Wp.neS ?_)
  | ((with_reducible refine' Wp.var ?hv ?_); (case hv => exact rfl))
  | ((with_reducible refine' Wp.ixl ?hs ?he ?_); (case hs => first | exact SqL.of upd_same | exact SqL.of (by assumption) | assumption); (case he => exact rfl))
  | ((with_reducible refine' Wp.setl ?hs ?he ?_); (case hs => first | exact upd_same | assumption); (case he => exact rfl))
  | ((with_reducible refine' Wp.modP ?hs ?_); (case hs => first | decide | omega))
  | ((with_reducible refine' Wp.divN ?hs ?ht ?_); (case hs => first | decide | omega); (case ht => first | decide | omega))
  | ((with_reducible refine' Wp.mulM ?hs ?ht ?_); (case hs => decide); (case ht => decide))
  | ((with_reducible refine' Wp.mulL ?hs ?_); (case hs => omega))
  | ((with_reducible refine' Wp.mulR ?hs ?_); (case hs => omega))
  | ((with_reducible refine' Wp.powS ?hs ?_); (case hs => decide))
  | ((with_reducible refine' Wp.shr ?hs ?_); (case hs => decide))
  | ((with_reducible refine' Wp.szl ?hs ?_); (case hs => first | decide | (simp; done)))
  | ((with_reducible refine' Wp.lenL ?hs ?_); (case hs => first | exact SqL.of upd_same | exact SqL.of (by assumption) | assumption))
  | ((with_reducible refine' Wp.lenT ?hs ?_); (case hs => first | exact SqT.of upd_same | exact SqT.of (by assumption) | assumption))
  | ((with_reducible refine' Wp.iteC ?hs ?_); (case hs => exact rfl)) | ((with_reducible refine' Wp.iteD ?hs ?_); (case hs => exact Bool.false_ne_true))
  | ((with_reducible refine' Wp.wp ?hs ?_); (case hs => rfl))
  | (with_reducible first | refine Wp.abs ?_ | refine Wp.max2 ?_ | refine Wp.min2 ?_)
  | ((with_reducible refine' Wp.sll ?hs ?_); (case hs => first | exact SqL.of upd_same | exact SqL.of (by assumption) | assumption)))
local macro_rules | `(tactic| walk_at "KQ") => `(tactic| first
  | exact Wp.kq "int" rfl (by decide +kernel) | exact Wp.kq "bool" rfl (by decide +kernel) | exact Wp.kq "str" rfl (by decide +kernel) | exact Wp.kq "list" rfl (by decide +kernel)
  | exact Wp.kq "tuple" rfl (by decide +kernel) | exact Wp.kq "NoneType" rfl (by decide +kernel) | exact Wp.kq "dict" rfl (by decide +kernel))

section
variable {P : Program} {w : World} {K : PySem.W.Frag} {mg : Str → Option Value} {base : Heap}
/-- a text, undone -/
def spUndT (C CA : Addr) : Sp := fun vs H Q _ => ∃ (x : Addr) (S : Str) (rs : List (Str × Str)) (b e : Nat → Plc) (pr : Nat → Nat → Option Nat) (inv : Nat → Nat) (z : Str), vs = [.ref x, .str z] ∧ ArAt C CA H x S rs b e pr inv ∧ over S z ∧ z.length ≤ 1000 ∧ ∀ H', Same H H' → Q (.str (mkS (invT inv (cl z)))) H'
theorem ok_undT (B : Wp.Blt mg) {f C CA : Addr} {fd : FuncData} (F : Fun K "undone_text" "Arrows.undone_text" s_Arrows_undone_text f fd) (T : ArC K CA) : FnOk P w K mg base CX0 1 f fd ["self", "text"] (spUndT C CA) := by
  refine F.ok sc_Arrows_undone_text (fun vs H Q E h => ?_) (fun cdv A outer s H vs Q E hr h => ?_)
  · obtain ⟨x, S, rs, b, e, pr, inv, z, rfl, _⟩ := h
    rfl
  · obtain ⟨x, S, rs, b, e, pr, inv, z, rfl, hA, hov, hz, q⟩ := h
    refine ⟨_, (pss_one (ps_ret (Wp.wjoin (K := K) (pe_join pe_str (pe_lc (own := [("sign", 2)]) (g := gName 2) (by rfl) sc_Arrows_undone_text.nd (pi_str (Bk.pe_revS (pv 1))) (blkOk_by (own := [("sign", 2)]) (N := N_Arrows_undone_text) (sc := defScope s_Arrows_undone_text) (by decide +kernel)) (fun _ _ _ _ _ => pg_name (i := 2) sc_Arrows_undone_text.nd rfl (Or.inl rfl)) (fun _ _ _ _ _ => pts_nil) (fun _ _ _ _ _ => (pe_dget (hu_of hr) (Wp.wfld (K := K) (pe_fld (pv 0) rfl)) (pv 2) (fun _ _ => rfl)))))))), ?_⟩
    refine Wp.st (σ' := [some (.ref x), some (.str z), none]) rfl ?_
    obtain ⟨dx, p, d, u, f1, l, r, ro, h1, h2, h3, ⟨kvs, hd1, hd2⟩, h5, h6, h7, h8⟩ := hA.ex
    have hbig : (1000000 : Nat) < sizeLine := by decide
    repeat walk_at "W"
    refine revS ?_
    repeat walk_at "W"
    refine ⟨by omega, _, rfl, fun A hA => ?_⟩
    refine Wp.lcIt walk_str (fun i G => Same H G ∧ G A = some (.lst ((((cl z).reverse.take i).map inv).map ch))) ⟨Wp.same_upd hA, upd_same⟩ (fun _ _ _ _ => trivial) ?_ ?_
    · rintro i y G G' hi ⟨s1, hG⟩ ⟨rfl, c, hc, rfl⟩
      have hxc := str_at hc
      rw [cl_mk] at hxc
      have hcm := hov c (List.mem_reverse.mp (List.mem_of_getElem? hxc))
      have hi2 := (List.getElem?_eq_some_iff.mp hxc).1
      rw [List.length_reverse, len_cl] at hi2
      repeat walk_at "W"
      refine ⟨x, CA, dx, _, _, rfl, s1 _ _ h1, T.cl, T.n3, arF_undoing _ _ _ _ _ _, ?_⟩
      repeat walk_at "W"
      refine Wp.dK_get (s1 _ _ hd1) (hd2 c hcm) ?_
      refine ⟨_, hG, by rw [List.length_map, List.length_map, List.length_take]; omega, fun b' o e => ?_, ?_⟩
      · rw [upd_ne (fun q => by rw [q, hA] at e; cases e)]
        exact s1 _ _ e
      · rw [upd_same, List.take_add_one, hxc, List.map_append, List.map_append]
        rfl
    · rintro G ⟨s1, hG⟩
      rw [show (mkS (cl z).reverse).cps.size = (cl z).reverse.length from len_mk _, List.take_length] at hG
      repeat walk_at "W"
      refine joinC (SqL.of hG) (by rw [List.length_map, List.length_reverse, len_cl]; omega) ?_
      exact q G s1
/-- the shortest text of which a text is a row -/
def spIRoot : Sp := fun vs H Q _ => ∃ y : Str, vs = [.str y] ∧ cl y ≠ [] ∧ y.length ≤ 400 ∧ Q (.str (mkS (piece (cl y)))) H
theorem ok_iroot (B : Wp.Blt mg) {f : Addr} {fd : FuncData} (F : Fun K "inner_root" "inner_root" s_inner_root f fd) : FnOk P w K mg base CX0 1 f fd ["inner"] spIRoot := by
  refine F.ok sc_inner_root (fun vs H Q E h => ?_) (fun cdv A outer s H vs Q E hr h => ?_)
  · obtain ⟨y, rfl, _⟩ := h
    rfl
  · obtain ⟨y, rfl, hy0, hy, q⟩ := h
    refine ⟨_, (pss_one (ps_ret (pe_slice (ws_any (K := K)) (pv 0) po_none (po_some (Wp.wbm (K := K) (pe_bm PySem.F.plainAttrs_str PySem.F.slot_str_find PySem.F.type_str_find mt_find3 (pe_op (wo_add (K := K)) (pv 0) (pv 0)) (pa_cons (pv 0) (pa_cons pe_int pa_nil)))))))), ?_⟩
    refine Wp.st (σ' := [some (.str y)]) rfl ?_
    have hbig : (1000000 : Nat) < sizeLine := by decide
    repeat walk_at "W"
    have eyy : cl (y ++ y) = cl y ++ cl y := TL.tl_append _ _
    have hyl : (y ++ y).length = y.length + y.length := by rw [← len_cl, eyy, List.length_append, len_cl]
    refine Wp.addS (by omega) ?_
    refine ⟨rfl, ?_⟩
    repeat walk_at "W"
    refine ⟨_, _, _, rfl, rfl, ?_⟩
    rw [find_rot eyy rfl hy0]
    refine ⟨_, rfl, ?_⟩
    refine sls (by omega) ?_
    rw [cutS_hi (pieceN (cl y)) rfl]
    exact q
theorem ok_initHO {f : Addr} {fd : FuncData} (F : Fun K "__init__" "HasOrder.__init__" s_HasOrder___init__ f fd) : FnOk P w K mg base CX0 1 f fd ["self", "number"] (Wp.spInit K "number") := by
  refine F.ok sc_HasOrder___init__ (fun vs H Q E h => ?_) (fun cdv A outer s H vs Q E hr h => ?_)
  · obtain ⟨a, C, y, rfl, _⟩ := h
    rfl
  · obtain ⟨a, C, y, rfl, hO, hno, ha, q⟩ := h
    refine ⟨_, pss_one (ps_ost (pv 0) (pv 1)), ?_⟩
    exact ⟨y, rfl, .ref a, rfl, a, C, rfl, hO, hno, .inl ⟨ha, fun dx hdx hne => q dx hdx hne⟩⟩
/-- the root of a text, or that it has an order -/
def spRoot (C CH : Addr) : Sp := fun vs H Q E => ∃ (p : Addr) (S : Str) (rs : List (Str × Str)) (b e : Nat → Plc) (pr : Nat → Nat → Option Nat) (inv : Nat → Nat) (z : Str) (A W : List Nat), vs = [.ref p, .str z] ∧ BookAt C H p S rs ∧ S.length ≤ 8 ∧ 0 < S.length ∧ Gbk (cl S) b e pr rs ∧ Gpd (cl S) b e pr inv ∧ over S z ∧ z.length ≤ 200 ∧ Uw b e pr (overP rs (cl z)) A W ∧
  (∀ n, dueN rs (cl z) = some n → ∀ dd H', H dd = none → Same H H' → H' dd = some (.xd [("number", .int (n : Nat))]) → E (.ref CH) (some dd) H') ∧
  (dueN rs (cl z) = none → ∀ H' t, Same H H' → H' t = some (.tup [.str (mkS (overP rs (A ++ piece W ++ invT inv A))), .int (times W : Nat)]) → Q (.ref t) H')
theorem ok_root (B : Wp.Blt mg) {f fA fU fI fR fO fT fN fH C CA CT CH : Addr} {fd fdA fdU fdI fdR fdO fdT fdN fdH : FuncData} (F : Fun K "root" "root" s_root f fd) (TB : BkC K C) (T : ArC K CA)
    (D_checked_arrows : Wp.Dh K mg "checked_arrows" fA fdA ["book"]) (G_checked_arrows : FnOk P w K mg base CX0 5 fA fdA ["book"] (spCheckedA C CA))
    (D_unwrapped : Wp.Dh K mg "unwrapped" fU fdU ["arrows", "end"]) (G_unwrapped : FnOk P w K mg base CX0 1 fU fdU ["arrows", "end"] (spUnw C CA))
    (D_order_of_inner : Wp.Dh K mg "order_of_inner" fI fdI ["arrows", "inner"]) (G_order_of_inner : FnOk P w K mg base CX0 5 fI fdI ["arrows", "inner"] (spOInner C CA))
    (D_inner_root : Wp.Dh K mg "inner_root" fR fdR ["inner"]) (G_inner_root : FnOk P w K mg base CX0 1 fR fdR ["inner"] spIRoot)
    (D_over : Wp.Dh K mg "over" fO fdO ["book", "text"]) (G_over : FnOk P w K mg base CX0 4 fO fdO ["book", "text"] (spOver C))
    (D_checked_text : Wp.Dh K mg "checked_text" fT fdT ["signs", "thing"]) (G_checked_text : FnOk P w K mg base (L2.CX P w) 3 fT fdT ["signs", "thing"] (spCText K CT))
    (MU : Meth K CA "undone_text" fN) (GU : FnOk P w K mg base CX0 1 fN fdN ["self", "text"] (spUndT C CA)) (bU : Binds K fdN ["self", "text"] [])
    (T_HasOrder : Wp.ExT K mg "HasOrder" CH fH "number") (G_HasOrder : FnOk P w K mg base CX0 1 fH fdH ["self", "number"] (Wp.spInit K "number")) (b_HasOrder : Binds K fdH ["self", "number"] []) : FnOk P w K mg base (L2.CX P w) 6 f fd ["book", "text"] (spRoot C CH) := by
  refine F.okX sc_root (fun vs H Q E h => ?_) (fun cdv A outer s H vs Q E hr h => ?_)
  · obtain ⟨p, S, rs, b, e, pr, inv, z, A, W, rfl, _⟩ := h
    rfl
  · obtain ⟨p, S, rs, b, e, pr, inv, z, A, W, rfl, hB, hl, hl0, hG, g, hzo, hzl, hu, qe, q⟩ := h
    refine ⟨_, (pss_cons (ps_set (i := 2) sc_root.nd rfl (by first | exact .inl rfl | exact .inr rfl) (pe_call G_checked_arrows (hr.mono (by decide)) (by rfl) D_checked_arrows.g D_checked_arrows.k D_checked_arrows.b .nil pass0 (pa_cons (pv 0) pa_nil)))
  (pss_cons (ps_asg (pe_call G_unwrapped (hr.mono (by decide)) (by rfl) D_unwrapped.g D_unwrapped.k D_unwrapped.b .nil pass0 (pa_cons (pv 2) (pa_cons (pe_call G_over (hr.mono (by decide)) (by rfl) D_over.g D_over.k D_over.b .nil pass0 (pa_cons (pv 0) (pa_cons (pe_call G_checked_text (hr.mono (by decide)) (by rfl) D_checked_text.g D_checked_text.k D_checked_text.b .nil (passes_call (takes_of rfl rfl rfl rfl) (fun _ _ _ _ h => h)) (pa_cons (Wp.wfld (K := K) (pe_fld (pv 0) rfl)) (pa_cons (pv 1) pa_nil))) pa_nil))) pa_nil))) (Wp.wg_tup (K := K) (n := 2) rfl (pgs_cons (pg_name (i := 3) sc_root.nd rfl (by first | exact .inl rfl | exact .inr rfl)) (pgs_cons (pg_name (i := 4) sc_root.nd rfl (by first | exact .inl rfl | exact .inr rfl)) pgs_nil))))
  (pss_cons (ps_set (i := 5) sc_root.nd rfl (by first | exact .inl rfl | exact .inr rfl) (pe_call G_order_of_inner (hr.mono (by decide)) (by rfl) D_order_of_inner.g D_order_of_inner.k D_order_of_inner.b .nil pass0 (pa_cons (pv 2) (pa_cons (pv 4) pa_nil))))
  (pss_cons (ps_if (pt_cmpR Wp.wo_isnot (pv 5) pe_non (nomark _)) (pss_one (ps_raise rfl (takes_of rfl rfl rfl rfl) (pmk_oex T_HasOrder.O T_HasOrder.iC T_HasOrder.tI G_HasOrder (hr.mono (by decide)) b_HasOrder .nil pass0 (by rfl) T_HasOrder.g (pa_cons (pv 5) pa_nil)))) pss_nil)
  (pss_cons (ps_set (i := 6) sc_root.nd rfl (by first | exact .inl rfl | exact .inr rfl) (pe_call G_inner_root (hr.mono (by decide)) (by rfl) D_inner_root.g D_inner_root.k D_inner_root.b .nil pass0 (pa_cons (pv 4) pa_nil)))
  (pss_one (ps_ret (pe_tup (pa_cons (pe_call G_over (hr.mono (by decide)) (by rfl) D_over.g D_over.k D_over.b .nil pass0 (pa_cons (pv 0) (pa_cons (pe_op (wo_add (K := K)) (pe_op (wo_add (K := K)) (pv 3) (pv 6)) (pe_meth (pv 2) T.cl MU GU (hr.mono (by decide)) bU .nil pass0 (pa_cons (pv 3) pa_nil))) pa_nil))) (pa_cons (pe_op op_fdivN (pe_callB (Wp.wc_len (K := K)) (by rfl) B.len (by decide +kernel) (pa_cons (pv 4) pa_nil)) (pe_callB (Wp.wc_len (K := K)) (by rfl) B.len (by decide +kernel) (pa_cons (pv 6) pa_nil))) pa_nil)))))))))), ?_⟩
    refine Wp.st (σ' := [some (.ref p), some (.str z), none, none, none, none, none]) rfl ?_
    have ht : Wp.isText S 200 (.str z) = true := isText_iff.mpr ⟨by omega, hzo⟩
    repeat walk_at "W"
    refine ⟨p, S, rs, b, e, pr, inv, rfl, hB, hl, hl0, hG, g, fun H1 x s1 hA => ?_⟩
    repeat walk_at "W"
    refine bk_signs TB (hB.same s1) ?_
    repeat walk_at "W"
    refine ⟨S, .str z, .str z, rfl, .str _, (fun x e => by cases e; omega), fun _ => ?_, fun hb => by rw [ht] at hb; cases hb⟩
    obtain ⟨om, ol⟩ := hG.over_mem g hzo
    have hn := hG.over_nj g hzo
    rw [len_cl] at ol
    intro H2 s2
    repeat walk_at "W"
    refine ⟨p, S, rs, z, rfl, hB.same (s1.trans s2), by omega, fun H3 s3 => ?_⟩
    repeat walk_at "W"
    refine ⟨x, S, rs, b, e, pr, inv, mkS (overP rs (cl z)), rfl, hA.same (s2.trans s3), hG, g, by rw [len_mk]; omega, by rw [cl_mk]; exact om, by rw [cl_mk]; exact hn, fun H4 t A' W' s4 ht4 hU => ?_⟩
    rw [cl_mk] at hU
    obtain ⟨rfl, rfl⟩ := hu.det hU.uw
    have hle := hU.le
    refine Wp.gt (SqT.of ht4) rfl ?_
    repeat walk_at "W"
    refine ⟨x, S, rs, b, e, pr, inv, mkS W, rfl, hA.same ((s2.trans s3).trans s4), hG, g, hl, by rw [len_mk]; omega, by rw [cl_mk]; exact hU.mW, by rw [cl_mk]; exact hU.nj, by rw [cl_mk]; exact hU.fin, fun H5 s5 => ?_⟩
    rw [cl_mk, dueN_congr (u := W) (v := cl z) fun n => by rw [← hU.pz hG g n]; exact hG.pz_over g (hG.nn _) n]
    have s25 := ((s2.trans s3).trans s4).trans s5
    obtain ⟨dx, _, _, _, _, _, _, _, hx1, _⟩ := hA.ex
    have s05 := (((s1.trans s2).trans s3).trans s4).trans s5
    cases ho : dueN rs (cl z) with
    | some n =>
      repeat walk_at "W"
      exact Wp.mki T_HasOrder fun dd H'' h1 h2 h3 => qe n ho dd H'' (s05.free h1) (s05.trans h2) h3
    | none =>
      have hW0 : W ≠ [] := fun e => by
        have h1 : dueN rs (cl z) = some 1 := dueN_some (by decide) (by decide) ((hG.pz_over g (hG.nn _) 1).mp ((hU.pz hG g 1).mpr (by rw [e]; exact hG.nil))) fun k k0 k1 => by omega
        rw [ho] at h1; cases h1
      obtain ⟨w1, w2, w3, w4⟩ := piece_ok hW0
      have hWl : W.length ≤ z.length := by omega
      have hpl : (piece W).length ≤ W.length := by
        unfold piece
        rw [List.length_take]
        omega
      have hAl : A.length ≤ z.length := by omega
      have hpl2 : (piece W).length ≤ z.length := Nat.le_trans hpl hWl
      have hpm : ∀ c ∈ piece W, c ∈ cl S := fun c hc => hU.mW c (List.mem_of_mem_take hc)
      have hil : (invT inv A).length = A.length := by
        unfold invT
        rw [List.length_map, List.length_reverse]
      repeat walk_at "W"
      refine ⟨mkS W, rfl, by rw [cl_mk]; exact hW0, by rw [len_mk]; omega, ?_⟩
      rw [cl_mk]
      repeat walk_at "W"
      refine Wp.addS (by rw [len_mk, len_mk, sizeLine_eq]; omega) ?_
      repeat walk_at "W"
      refine ⟨_, rfl, x, dx, _, rfl, s25 _ _ hx1, arF_none _ _ _ _ _ _ (by decide +kernel), ?_⟩
      repeat walk_at "W"
      refine ⟨x, S, rs, b, e, pr, inv, mkS A, rfl, hA.same s25, fun c hc => hU.mA c (by rw [← cl_mk A]; exact hc), by rw [len_mk]; omega, fun H6 s6 => ?_⟩
      rw [cl_mk]
      have eA : mkS A ++ mkS (piece W) = mkS (A ++ piece W) := ext (by rw [cl_mk, show cl (mkS A ++ mkS (piece W)) = cl (mkS A) ++ cl (mkS (piece W)) from TL.tl_append _ _, cl_mk, cl_mk])
      have eB : mkS (A ++ piece W) ++ mkS (invT inv A) = mkS (A ++ piece W ++ invT inv A) := ext (by rw [cl_mk, show cl (mkS (A ++ piece W) ++ mkS (invT inv A)) = cl (mkS (A ++ piece W)) ++ cl (mkS (invT inv A)) from TL.tl_append _ _, cl_mk, cl_mk])
      rw [eA]
      refine Wp.addS (by rw [len_mk, len_mk, List.length_append, sizeLine_eq]; omega) ?_
      rw [eB]
      repeat walk_at "W"
      refine ⟨p, S, rs, _, rfl, hB.same (s05.trans s6), by rw [len_mk, List.length_append, List.length_append]; omega, fun H7 s7 => ?_⟩
      rw [cl_mk]
      obtain ⟨n0, n1, _, _⟩ := pieceN_ok hW0
      have et : (((W.length : Nat) : Int).fdiv ((pieceN W : Nat) : Int)) = ((times W : Nat) : Int) := by
        rw [Int.fdiv_eq_ediv_of_nonneg _ (by omega)]
        rfl
      repeat walk_at "W"
      refine Wp.lenS (by rw [len_mk, sizeLine_eq]; omega) ?_
      repeat walk_at "W"
      refine Wp.lenS (by rw [len_mk, sizeLine_eq]; omega) ?_
      rw [len_mk, len_mk, w3]
      refine Wp.divN (by omega) (by omega) ?_
      rw [et]
      repeat walk_at "W"
      intro t2 ht2
      exact q ho _ t2 (((s05.trans s6).trans s7).trans (Wp.same_upd ht2)) upd_same
/-- how often the shortest piece stands in the law's core of a text -/
def spLTimes : Sp := fun vs H Q _ => ∃ (S z : Str) (R : Addr) (bs : List Addr) (rs : List (Str × Str)) (b e : Nat → Plc) (pr : Nat → Nat → Option Nat) (inv : Nat → Nat) (A W : List Nat), vs = [.ref R, .str z] ∧ H R = some (.tup (bs.map V.ref)) ∧ RulesAt H bs rs ∧ Gbk (cl S) b e pr rs ∧ Gpd (cl S) b e pr inv ∧ rs.length ≤ 64 ∧ over S z ∧ z.length ≤ 100 ∧ Uw b e pr (overP rs (cl z)) A W ∧ W ≠ [] ∧
  ∀ H', Same H H' → Q (.int (times W : Nat)) H'
theorem ok_ltimes (B : Wp.Blt mg) {f fL : Addr} {fd fdL : FuncData} (F : Fun K "_law_times" "_law_times" s__law_times f fd)
    (D__law_left : Wp.Dh K mg "_law_left" fL fdL ["_law_rules", "_law_text_here"]) (G__law_left : FnOk P w K mg base CX0 1 fL fdL ["_law_rules", "_law_text_here"] spLLeft) : FnOk P w K mg base CX0 2 f fd ["_law_rules", "_law_text_here"] spLTimes := by
  refine F.ok sc__law_times (fun vs H Q E h => ?_) (fun cdv A outer s H vs Q E hr h => ?_)
  · obtain ⟨S, z, R, bs, rs, b, e, pr, inv, A, W, rfl, _⟩ := h
    rfl
  · obtain ⟨S, z, R, bs, rs, b, e, pr, inv, A, W, rfl, hR, hrs, hG, g, h64, hov, hz, hu, hW0, q⟩ := h
    refine ⟨_, (pss_cons (ps_set (i := 2) sc__law_times.nd rfl (by first | exact .inl rfl | exact .inr rfl) (pe_call G__law_left (hr.mono (by decide)) (by rfl) D__law_left.g D__law_left.k D__law_left.b .nil pass0 (pa_cons (pv 0) (pa_cons (pv 1) pa_nil))))
  (pss_cons (ps_for PassesOwn.never rfl (pi_range1 (by rfl) B.range (pa_cons (pe_callB (Wp.wc_len (K := K)) (by rfl) B.len (by decide +kernel) (pa_cons (pv 2) pa_nil)) pa_nil)) (pg_name (i := 3) sc__law_times.nd rfl (by first | exact .inl rfl | exact .inr rfl)) (pss_cons (ps_set (i := 4) sc__law_times.nd rfl (by first | exact .inl rfl | exact .inr rfl) (pe_ifExp (pt_cmpR wo_gt (pe_callB (Wp.wc_len (K := K)) (by rfl) B.len (by decide +kernel) (pa_cons (pv 2) pa_nil)) pe_int (nomark _)) (pe_call G__law_left (hr.mono (by decide)) (by rfl) D__law_left.g D__law_left.k D__law_left.b .nil pass0 (pa_cons (pv 0) (pa_cons (pe_op (wo_add (K := K)) (pe_slice (ws_any (K := K)) (pv 2) (po_some (pe_op op_sub (pe_callB (Wp.wc_len (K := K)) (by rfl) B.len (by decide +kernel) (pa_cons (pv 2) pa_nil)) pe_int)) po_none) (pe_slice (ws_any (K := K)) (pv 2) po_none (po_some (pe_op op_sub (pe_callB (Wp.wc_len (K := K)) (by rfl) B.len (by decide +kernel) (pa_cons (pv 2) pa_nil)) pe_int)))) pa_nil))) (pv 2)))
  (pss_one (ps_if (pt_cmpR wo_lt (pe_callB (Wp.wc_len (K := K)) (by rfl) B.len (by decide +kernel) (pa_cons (pv 4) pa_nil)) (pe_callB (Wp.wc_len (K := K)) (by rfl) B.len (by decide +kernel) (pa_cons (pv 2) pa_nil)) (nomark _)) (pss_one (ps_set (i := 2) sc__law_times.nd rfl (by first | exact .inl rfl | exact .inr rfl) (pv 4))) pss_nil))))
  (pss_cons (ps_for PassesOwn.never rfl (pi_range2 (by rfl) B.range (pa_cons pe_int (pa_cons (pe_callB (Wp.wc_len (K := K)) (by rfl) B.len (by decide +kernel) (pa_cons (pv 2) pa_nil)) pa_nil))) (pg_name (i := 5) sc__law_times.nd rfl (by first | exact .inl rfl | exact .inr rfl)) (pss_one (ps_if (pt_cmpR (wo_eq (K := K) hr.units) (pe_op Bk.wo_repS (pe_slice (ws_any (K := K)) (pv 2) po_none (po_some (pv 5))) (pe_op op_fdivN (pe_callB (Wp.wc_len (K := K)) (by rfl) B.len (by decide +kernel) (pa_cons (pv 2) pa_nil)) (pv 5))) (pv 2) (nomark _)) (pss_one (ps_ret (pe_op op_fdivN (pe_callB (Wp.wc_len (K := K)) (by rfl) B.len (by decide +kernel) (pa_cons (pv 2) pa_nil)) (pv 5)))) pss_nil)))
  (pss_one (ps_ret pe_int))))), ?_⟩
    refine Wp.st (σ' := [some (.ref R), some (.str z), none, none, none, none]) rfl ?_
    have hbig : (1000000 : Nat) < sizeLine := by decide
    obtain ⟨om, ol⟩ := hG.over_mem g hov
    have hn := hG.over_nj g hov
    rw [len_cl] at ol
    repeat walk_at "W"
    refine ⟨R, bs, rs, z, rfl, .inr hR, hrs, h64, hG.good, by omega, fun H1 s1 => ?_⟩
    repeat walk_at "W"
    obtain ⟨ct, cll⟩ := hG.lcore_done g hu om hn
    generalize overP rs (cl z) = E at om ol hn hu ct cll
    refine Wp.lenS (by rw [len_mk]; omega) ?_
    repeat walk_at "W"
    refine ⟨_, rfl, by omega, by rw [len_mk]; omega, ?_⟩
    rw [len_mk, Int.toNat_natCast]
    refine Wp.forIt walk_range (fun i σ1 G => ∃ x3 x4, σ1 = [some (.ref R), some (.str z), some (.str (mkS (lcore rs E i))), x3, x4, none] ∧ Same H1 G) ⟨_, _, rfl, Same.refl _⟩ (fun _ _ _ _ _ => trivial) ?_ ?_
    · rintro i y σ1 G G' hi ⟨x3, x4, rfl, s2⟩ ⟨rfl, hy⟩
      have hcl := lcore_len rs E i
      have hcl1 : (lcore rs E (i + 1)) = lstep rs (lcore rs E i) := rfl
      generalize lcore rs E i = c at hcl hcl1
      rw [hcl1]
      refine Wp.gname ?_
      refine Wp.cutQ (fun σ' H' => ∃ x3, σ' = [some (.ref R), some (.str z), some (.str (mkS c)), x3, some (.str (mkS (lturn rs c))), none] ∧ Same H1 H') (fun nx hn' => ?_) ?_
      · repeat walk_at "W"
        refine Wp.lenS (by rw [len_mk]; omega) ?_
        repeat walk_at "W"
        rw [len_mk]
        refine Wp.itd (fun e1 => ?_) (fun e1 => ?_)
        · have e1' : 1 < c.length := by omega
          have en : ((c.length : Nat) : Int) - 1 = ((c.length - 1 : Nat) : Int) := by omega
          repeat walk_at "W"
          refine Wp.lenS (by rw [len_mk]; omega) ?_
          repeat walk_at "W"
          refine sls (by rw [len_mk]; omega) ?_
          rw [len_mk, cutS_lo (c.length - 1) en, cl_mk]
          repeat walk_at "W"
          refine Wp.lenS (by rw [len_mk]; omega) ?_
          repeat walk_at "W"
          refine sls (by rw [len_mk]; omega) ?_
          rw [len_mk, cutS_hi (c.length - 1) en, cl_mk]
          refine Wp.addS (by rw [len_mk, len_mk, List.length_drop, List.length_take]; omega) ?_
          have ea : mkS (c.drop (c.length - 1)) ++ mkS (c.take (c.length - 1)) = mkS (c.drop (c.length - 1) ++ c.take (c.length - 1)) := ext (by rw [cl_mk, show cl (mkS (c.drop (c.length - 1)) ++ mkS (c.take (c.length - 1))) = cl (mkS (c.drop (c.length - 1))) ++ cl (mkS (c.take (c.length - 1))) from TL.tl_append _ _, cl_mk, cl_mk])
          rw [ea]
          repeat walk_at "W"
          refine ⟨R, bs, rs, _, rfl, .inr (s2 _ _ (s1 _ _ hR)), hrs.same (s1.trans s2), h64, hG.good, by rw [len_mk, List.length_append, List.length_drop, List.length_take]; omega, fun H3 s3 => ?_⟩
          rw [cl_mk]
          repeat walk_at "W"
          have el : lturn rs c = overP rs (c.drop (c.length - 1) ++ c.take (c.length - 1)) := by unfold lturn; rw [if_pos e1']
          rw [← el]
          exact hn' _ _ ⟨_, rfl, s2.trans s3⟩
        · have el : lturn rs c = c := by unfold lturn; rw [if_neg (by omega)]
          repeat walk_at "W"
          rw [el] at hn'
          exact hn' _ _ ⟨_, rfl, s2⟩
      rintro σ' H3 ⟨y3, rfl, s3⟩
      have htl : (lturn rs c).length ≤ c.length := by
        unfold lturn
        split
        · refine Nat.le_trans ((nf_over hG.good).star _ |>.le (rr_short hG.good)) ?_
          rw [List.length_append, List.length_drop, List.length_take]
          omega
        · exact Nat.le_refl _
      repeat walk_at "W"
      refine Wp.lenS (by rw [len_mk]; omega) ?_
      repeat walk_at "W"
      refine Wp.lenS (by rw [len_mk]; omega) ?_
      rw [len_mk, len_mk]
      repeat walk_at "W"
      refine Wp.itd (fun e1 => ?_) (fun e1 => ?_)
      · have el : lstep rs c = lturn rs c := by unfold lstep; rw [if_pos (by omega)]
        repeat walk_at "W"
        rw [el]
        exact ⟨_, _, rfl, s3⟩
      · have el : lstep rs c = c := by unfold lstep; rw [if_neg (by omega)]
        repeat walk_at "W"
        rw [el]
        exact ⟨_, _, rfl, s3⟩
    · rintro σ1 G ⟨x3, x4, rfl, s2⟩
      have hcE := lcore_len rs E E.length
      generalize lcore rs E E.length = c at ct cll hcE
      have hWl : 0 < W.length := List.length_pos_iff.mpr hW0
      have hc0 : c ≠ [] := fun e => by rw [e] at cll; simp at cll; omega
      repeat walk_at "W"
      refine Wp.lenS (by rw [len_mk]; omega) ?_
      repeat walk_at "W"
      rw [len_mk]
      refine ⟨1, _, rfl, ⟨by decide, by decide, by omega, by omega⟩, ?_⟩
      rw [show (((c.length : Nat) : Int) - 1).toNat = c.length - 1 by omega]
      have row_eq : ∀ s : Nat, 0 < s → (Txt.mul (mkS (c.take s)) ((c.length / s : Nat) : Int) = mkS c ↔ Bk.Row c s) := fun s s0 => by
        unfold Bk.Row
        constructor
        · intro h
          have := congrArg cl h
          rwa [mulT_cl, cl_mk, cl_mk] at this
        · intro h
          exact ext (by rw [mulT_cl, cl_mk, cl_mk]; exact h)
      refine Wp.forIt walk_range (fun i σ1 G2 => ∃ x5, σ1 = [some (.ref R), some (.str z), some (.str (mkS c)), x3, x4, x5] ∧ Same G G2 ∧ ∀ j, 0 < j → j < i + 1 → ¬ Bk.Row c j) ⟨_, rfl, Same.refl _, fun j j0 j1 => by omega⟩ (fun _ _ _ _ _ => trivial) ?_ ?_
      · rintro i y σ1 G2 G3 hi ⟨x5, rfl, s3, hno⟩ ⟨rfl, hy⟩
        obtain rfl : y = .int ((i + 1 : Nat) : Int) := by rw [hy]; exact congrArg V.int (by omega)
        have ed : (((c.length : Nat) : Int).fdiv ((i + 1 : Nat) : Int)) = ((c.length / (i + 1) : Nat) : Int) := by
          rw [Int.fdiv_eq_ediv_of_nonneg _ (by omega)]
          rfl
        have hdl : c.length / (i + 1) ≤ c.length := Nat.div_le_self _ _
        repeat walk_at "W"
        refine sls (by rw [len_mk]; omega) ?_
        rw [cutS_hi (i + 1) rfl, cl_mk]
        repeat walk_at "W"
        refine Wp.lenS (by rw [len_mk]; omega) ?_
        rw [len_mk]
        repeat walk_at "W"
        rw [ed]
        refine ⟨_, _, rfl, rfl, mulT_ok (by rw [len_mk, List.length_take]; omega) (by omega), ?_⟩
        repeat walk_at "W"
        refine Wp.itd (fun e1 => ?_) (fun e1 => ?_)
        · have hr := (row_eq (i + 1) (by omega)).mp e1
          repeat walk_at "W"
          refine Wp.lenS (by rw [len_mk]; omega) ?_
          rw [len_mk]
          repeat walk_at "W"
          rw [ed, times_law hc0 (by omega) (by omega) (.inr hr) hno, ct]
          exact q G3 ((s1.trans s2).trans s3)
        · repeat walk_at "W"
          refine ⟨_, rfl, s3, fun j j0 j1 hr => ?_⟩
          rcases Nat.lt_or_ge j (i + 1) with z | z
          · exact hno j j0 z hr
          · rw [show j = i + 1 by omega] at hr
            exact e1 ((row_eq (i + 1) (by omega)).mpr hr)
      · rintro σ1 G2 ⟨x5, rfl, s3, hno⟩
        have h1 := times_law hc0 (s := c.length) (by omega) (Nat.le_refl _) (.inl rfl) fun j j0 j1 => hno j j0 (by omega)
        rw [Nat.div_self (by omega), ct] at h1
        repeat walk_at "W"
        have := q G2 ((s1.trans s2).trans s3)
        rw [← h1] at this
        exact this
end
end K57
set_option Elab.async false
set_option linter.all false
set_option maxRecDepth 100000
set_option maxHeartbeats 8000000
namespace K57
open PySem PySem.Spec PyProof.Rows L2 Bk
open Wp (Keep wo_lt wo_le wo_gt wo_ge wo_eq wo_ne wo_in wo_nin wo_add wo_mul op_shlB ws_any wc_int wc_isi u65)
abbrev s__law_ends : Stmt := topS 58
abbrev N__law_ends : List Str := ["_law_signs", "_law_rules", "_law_size", "_law_told", "_law_level", "_law_k", "_law_later", "_law_text_here", "_law_sign", "_law_rule"]
theorem sc__law_ends : FnScope N__law_ends ["_law_signs", "_law_rules", "_law_size"] (defScope s__law_ends) := ⟨rfl, rfl, rfl, by decide +kernel, rfl, by decide +kernel, by decide +kernel⟩
local macro_rules | `(tactic| walk_at "W") => `(tactic| first
  | (with_reducible first
    | refine Wp.seq ?_ | refine Wp.asg ?_ | refine Wp.ret ?_ | refine Wp.retN ?_ | refine Wp.drop ?_ | refine Wp.nxt ?_ | refine Wp.ifs ?_ | refine Wp.gname ?_
    | refine Wp.op ?_ | refine Wp.un ?_ | refine Wp.tst ?_ | refine Wp.tb' ?_ | refine Wp.tnot ?_ | refine Wp.tand ?_ | refine Wp.tor ?_ | refine Wp.tandV ?_ | refine Wp.torV ?_ | refine Wp.tnotV ?_ | refine Wp.tif ?_ | refine Wp.tchain ?_
    | refine Wp.cb ?_ | refine Wp.call ?_ | refine Wp.cons ?_ | refine Wp.nil ?_ | refine Wp.gsub ?_ | refine Wp.cst ?_ | refine Wp.i0 ?_ | refine Wp.int1 ?_ | refine Wp.eb ?_ | refine Wp.ei ?_
    | refine Wp.gnil ?_ | refine Wp.gcons ?_ | refine Wp.mko ?_ | refine Wp.bm ?_ | refine Wp.ienum ?_ | refine Wp.tru ?_ | refine Wp.u1 ?_ | refine Wp.for_ ?_ | refine Wp.lc ?_ | refine Wp.istr ?_ | refine Wp.ilist ?_ | refine Wp.itup ?_ | refine Wp.irng1 ?_ | refine Wp.irng2 ?_ | refine Wp.yes ?_ | refine Wp.es ?_ | refine Wp.er ?_ | refine Wp.sl ?_ | refine Wp.nopart ?_ | refine Wp.part ?_ | refine Wp.lst ?_ | refine Wp.tup ?_
    | refine Wp.din ?_ | refine Wp.dnotin ?_ | refine Wp.dget ?_ | refine Wp.dget2 ?_ | refine Wp.dput ?_ | refine Wp.dnewK ?_ | refine Wp.dnewT ?_ | refine Wp.bm0 ?_ | refine Wp.m1 ?_ | refine Wp.exs ?_ | refine Wp.is0 ?_ | refine Wp.isnot0 ?_ | refine Wp.fld ?_ | refine Wp.sfld ?_
    | refine Wp.par ?_ | refine Wp.parV ?_ | refine Wp.brk ?_ | refine Wp.aug ?_ | refine Wp.ipaI ?_ | refine Wp.ipsI ?_ | refine Bk.ienumS ?_ | refine Wp.make_ ?_ | refine Wp.itnn ?_ | refine Wp.ltI ?_ | refine Wp.leI ?_ | refine Wp.leS ?_ | refine Wp.inSg ?_ | refine Wp.gtI ?_ | refine Wp.geI ?_ | refine Wp.eqI ?_ | refine Wp.neI ?_ | refine Wp.addI ?_ | refine Wp.ltS ?_ | refine Wp.eqS ?_ | refine Wp.neS ?_)
  | ((with_reducible refine' Wp.var ?hv ?_); (case hv => exact rfl))
  | ((with_reducible refine' Wp.ixl ?hs ?he ?_); (case hs => first | exact SqL.of upd_same | exact SqL.of (by assumption) | assumption); (case he => exact rfl))
  | ((with_reducible refine' Wp.setl ?hs ?he ?_); (case hs => first | exact upd_same | assumption); (case he => exact rfl))
  | ((with_reducible refine' Wp.modP ?hs ?_); (case hs => first | decide | omega))
  | ((with_reducible refine' Wp.divN ?hs ?ht ?_); (case hs => first | decide | omega); (case ht => first | decide | omega))
  | ((with_reducible refine' Wp.mulM ?hs ?ht ?_); (case hs => decide); (case ht => decide))
  | ((with_reducible refine' Wp.mulL ?hs ?_); (case hs => omega))
  | ((with_reducible refine' Wp.mulR ?hs ?_); (case hs => omega))
  | ((with_reducible refine' Wp.powS ?hs ?_); (case hs => decide))
  | ((with_reducible refine' Wp.shr ?hs ?_); (case hs => decide))
  | ((with_reducible refine' Wp.szl ?hs ?_); (case hs => first | decide | (simp; done)))
  | ((with_reducible refine' Wp.lenL ?hs ?_); (case hs => first | exact SqL.of upd_same | exact SqL.of (by assumption) | assumption))
  | ((with_reducible refine' Wp.lenT ?hs ?_); (case hs => first | exact SqT.of upd_same | exact SqT.of (by assumption) | assumption))
  | ((with_reducible refine' Wp.iteC ?hs ?_); (case hs => exact rfl)) | ((with_reducible refine' Wp.iteD ?hs ?_); (case hs => exact Bool.false_ne_true))
  | ((with_reducible refine' Wp.wp ?hs ?_); (case hs => rfl))
  | (with_reducible first | refine Wp.abs ?_ | refine Wp.max2 ?_ | refine Wp.min2 ?_)
  | ((with_reducible refine' Wp.sll ?hs ?_); (case hs => first | exact SqL.of upd_same | exact SqL.of (by assumption) | assumption)))
local macro_rules | `(tactic| walk_at "KQ") => `(tactic| first
  | exact Wp.kq "int" rfl (by decide +kernel) | exact Wp.kq "bool" rfl (by decide +kernel) | exact Wp.kq "str" rfl (by decide +kernel) | exact Wp.kq "list" rfl (by decide +kernel)
  | exact Wp.kq "tuple" rfl (by decide +kernel) | exact Wp.kq "NoneType" rfl (by decide +kernel) | exact Wp.kq "dict" rfl (by decide +kernel))

section
variable {P : Program} {w : World} {K : PySem.W.Frag} {mg : Str → Option Value} {base : Heap}
def spLEnds : Sp := fun vs H Q _ => ∃ sg t bs rs n, vs = [.str sg, .ref t, .int (n : Nat)] ∧ RowAt H t (bs.map V.ref) ∧ RulesAt H bs rs ∧ rs.length ≤ 64 ∧ Good rs ∧ sg.length ≤ 8 ∧ n ≤ 3 ∧
  ∀ H' L, Same H H' → H L = none → H' L = some (.lst (tx (endsUp rs (cl sg) n))) → Q (.ref L) H'
theorem ok_lends (B : Wp.Blt mg) (B_any : mg "any" = none) {f : Addr} {fd : FuncData} (F : Fun K "_law_ends" "_law_ends" s__law_ends f fd) : FnOk P w K mg base CX0 1 f fd ["_law_signs", "_law_rules", "_law_size"] spLEnds := by
  refine F.ok sc__law_ends (fun vs H Q E h => ?_) (fun cdv A outer s H vs Q E hr h => ?_)
  · obtain ⟨sg, t, bs, rs, n, rfl, _⟩ := h
    rfl
  · obtain ⟨sg, t, bs, rs, n, rfl, ht, hb, hl, hg, hsl, hn5, q⟩ := h
    refine ⟨_, (pss_cons (ps_set (i := 3) sc__law_ends.nd rfl (by first | exact .inl rfl | exact .inr rfl) (pe_lst (pa_cons pe_str pa_nil)))
  (pss_cons (ps_set (i := 4) sc__law_ends.nd rfl (by first | exact .inl rfl | exact .inr rfl) (pe_lst (pa_cons pe_str pa_nil)))
  (pss_cons (ps_for PassesOwn.never rfl (pi_range1 (by rfl) B.range (pa_cons (pv 2) pa_nil)) (pg_name (i := 5) sc__law_ends.nd rfl (by first | exact .inl rfl | exact .inr rfl)) (pss_cons (ps_set (i := 6) sc__law_ends.nd rfl (by first | exact .inl rfl | exact .inr rfl) (pe_lst pa_nil))
  (pss_cons (ps_for PassesOwn.never rfl (Wp.wi_list (K := K) (pv 4)) (pg_name (i := 7) sc__law_ends.nd rfl (by first | exact .inl rfl | exact .inr rfl)) (pss_one (ps_for PassesOwn.never rfl (pi_str (pv 0)) (pg_name (i := 8) sc__law_ends.nd rfl (by first | exact .inl rfl | exact .inr rfl)) (pss_one (ps_if (pt_not (pt_val (pe_callB (Bk.wc_any (K := K) (by rfl)) (by rfl) B_any (by decide +kernel) (pa_cons (pe_lc (own := [("_law_rule", 9)]) (g := gName 9) (by rfl) sc__law_ends.nd (wi_u (K := K) (pv 1)) (blkOk_by (own := [("_law_rule", 9)]) (N := N__law_ends) (sc := defScope s__law_ends) (by decide +kernel)) (fun _ _ _ _ _ => pg_name (i := 9) sc__law_ends.nd rfl (Or.inl rfl)) (fun _ _ _ _ _ => pts_nil) (fun _ _ _ _ _ => (pe_m1 PySem.F.slot_str_endswith PySem.F.type_str_endswith mt_endswith (pe_op (wo_add (K := K)) (pv 7) (pv 8)) (pe_ix (Wp.wx_seq (K := K)) (pv 9) pe_int (fun _ _ => rfl))))) pa_nil)))) (pss_one (ps_expr (Wp.wbm (K := K) (pe_bm PySem.F.plainAttrs_list PySem.F.slot_list_append PySem.F.type_list_append mt_append (pv 6) (pa_cons (pe_op (wo_add (K := K)) (pv 7) (pv 8)) pa_nil))))) pss_nil)))))
  (pss_cons (ps_set (i := 4) sc__law_ends.nd rfl (by first | exact .inl rfl | exact .inr rfl) (pe_callTy (Wp.wc_listU (K := K) rfl) (by rfl) B.list (by decide +kernel) (pa_cons (pv 6) pa_nil)))
  (pss_one (ps_set (i := 3) sc__law_ends.nd rfl (by first | exact .inl rfl | exact .inr rfl) (pe_op (wo_add (K := K)) (pv 3) (pv 4))))))))
  (pss_one (ps_ret (pv 3)))))), ?_⟩
    refine Wp.st (σ' := [some (.str sg), some (.ref t), some (.int (n : Nat)), none, none, none, none, none, none, none]) rfl ?_
    have hbl := hb.len
    have hcl := len_cl sg
    have addC : ∀ (a : List Nat) (c : Nat), mkS a ++ (⟨#[c]⟩ : Str) = mkS (a ++ [c]) := fun a c => ext (by rw [cl_mk, cl_app, cl_mk])
    repeat walk_at "W"
    intro L0 hL0
    have u0 := Wp.same_upd (o := .lst [.str ""]) hL0
    have v0 := upd_same (H := H) (a := L0) (o := .lst [.str ""])
    generalize upd H L0 (.lst [.str ""]) = G0 at u0 v0 ⊢
    repeat walk_at "W"
    intro L1 hL1
    have u1 := Wp.same_upd (o := .lst [.str ""]) hL1
    have v1 := upd_same (H := G0) (a := L1) (o := .lst [.str ""])
    generalize upd G0 L1 (.lst [.str ""]) = G1 at u1 v1 ⊢
    repeat walk_at "W"
    refine ⟨_, rfl, by omega, by omega, ?_⟩
    refine Wp.forIt walk_range (fun k σ1 H1 => ∃ Lt Ll x5 x6 x7 x8 x9, σ1 = [some (.str sg), some (.ref t), some (.int (n : Nat)), some (.ref Lt), some (.ref Ll), x5, x6, x7, x8, x9] ∧ Same H H1 ∧ H Lt = none ∧ H1 Lt = some (.lst (tx (endsUp rs (cl sg) k))) ∧ H1 Ll = some (.lst (tx (levs rs (cl sg) k))))
      ⟨L0, L1, _, _, _, _, _, rfl, u0.trans u1, hL0, u1 _ _ v0, v1⟩ (fun _ _ _ _ _ => trivial) ?_ ?_
    · rintro k x σ1 H1 H1' hk ⟨Lt, Ll, x5, x6, x7, x8, x9, rfl, s1, hLt, hT, hLv⟩ ⟨rfl, rfl⟩
      have hk5 : k < 3 := by omega
      have hlv := @levs_len8 rs (cl sg) (by omega) k
      have hp3 := pow8_le2 (k := k) (by omega)
      refine Wp.cutQ (fun σ' H' => ∃ A x5 x7 x8 x9, σ' = [some (.str sg), some (.ref t), some (.int (n : Nat)), some (.ref Lt), some (.ref Ll), x5, some (.ref A), x7, x8, x9] ∧ H1' A = none ∧ H' = upd H1' A (.lst [])) (fun nx hn => ?_) ?_
      · repeat walk_at "W"
        intro A hA
        repeat walk_at "W"
        exact hn _ _ ⟨A, _, _, _, _, rfl, hA, rfl⟩
      rintro σ' H2 ⟨A, y5, y7, y8, y9, rfl, hA, rfl⟩
      have upA : ∀ {G : Hp} (o : HO), Same H1' G → Same H1' (upd G A o) := fun o s b u e => by rw [upd_ne (ne_of_none e hA)]; exact s _ _ e
      have uA := Wp.same_upd (o := .lst []) hA
      refine Wp.cutQ (fun σ' H' => ∃ x7 x8 x9, σ' = [some (.str sg), some (.ref t), some (.int (n : Nat)), some (.ref Lt), some (.ref Ll), y5, some (.ref A), x7, x8, x9] ∧ Same H1' H' ∧ H' A = some (.lst (tx (levs rs (cl sg) (k + 1))))) (fun nx hn => ?_) ?_
      · repeat walk_at "W"
        refine ⟨⟨_, SqL.of (uA _ _ hLv)⟩, Wp.forIt (walk_list (xs := tx (levs rs (cl sg) k))) (fun i σ1 G => ∃ x7 x8 x9, σ1 = [some (.str sg), some (.ref t), some (.int (n : Nat)), some (.ref Lt), some (.ref Ll), y5, some (.ref A), x7, x8, x9] ∧ Same H1' G ∧ G A = some (.lst (tx (longer rs (cl sg) ((levs rs (cl sg) k).take i)))))
          ⟨_, _, _, rfl, uA, by rw [upd_same]; rfl⟩ (fun i σ1 G _ ⟨_, _, _, _, s, _⟩ => SqL.of (s _ _ hLv)) ?_ ?_⟩
        · rintro i x σ1 G G' hi ⟨x7, x8, x9, rfl, s2, hA2⟩ ⟨rfl, hx⟩
          rw [List.getElem?_map] at hx
          obtain ⟨u, hu, rfl⟩ := Option.map_eq_some_iff.mp hx
          have hul := levs_size k u (List.mem_of_getElem? hu)
          have hil := (List.getElem?_eq_some_iff.mp hu).1
          have hlo : (longer rs (cl sg) ((levs rs (cl sg) k).take i)).length ≤ i * 8 := Nat.le_trans (flat_len (c := 8) _ fun t _ => Nat.le_trans longerOf_len (by omega)) (by rw [List.length_take]; exact Nat.mul_le_mul_right 8 (by omega))
          repeat walk_at "W"
          refine Wp.forIt walk_str (fun j σ1 G2 => ∃ x8 x9, σ1 = [some (.str sg), some (.ref t), some (.int (n : Nat)), some (.ref Lt), some (.ref Ll), y5, some (.ref A), some (.str (mkS u)), x8, x9] ∧ Same H1' G2 ∧ G2 A = some (.lst (tx (longer rs (cl sg) ((levs rs (cl sg) k).take i) ++ longerOf rs ((cl sg).take j) u))))
            ⟨_, _, rfl, s2, by rw [hA2]; simp [longerOf]⟩ (fun _ _ _ _ _ => trivial) ?_ ?_
          · rintro j x σ1 G2 G2' hj ⟨x8, x9, rfl, s3, hA3⟩ ⟨rfl, c, hc, rfl⟩
            have hc2 : (cl sg)[j]? = some c := by show sg.cps.toList[j]? = _; rw [Array.getElem?_toList]; exact hc
            have hjl := (List.getElem?_eq_some_iff.mp hc2).1
            have hlt : (longerOf rs ((cl sg).take j) u).length ≤ 8 := Nat.le_trans longerOf_len (by rw [List.length_take]; omega)
            have hum : (mkS u).length = k := by rw [len_mk]; exact hul
            refine Wp.ifs ?_
            refine Wp.cutT (fun b H' => b = !fitsEnd rs (u ++ [c]) ∧ Same G2' H') (fun R hRR => ?_) ?_
            · repeat walk_at "W"
              refine iu_lc (xs := bs.map V.ref) rfl (ht.same (s1.trans s3)) fun D hD => ⟨fun m G3 => Same G2' G3 ∧ G3 D = some (.lst ((((rs.take m).map fun r => ends (u ++ [c]) r.1)).map V.bl)), ⟨Wp.same_upd hD, upd_same⟩, fun m G3 h => h.1, ?_, ?_⟩
              · rintro m x G3 hx ⟨s4, hD3⟩
                obtain ⟨b, ⟨l, r⟩, rfl, hlr, hbm⟩ := rulesAt_take hb hx
                have hml := (List.getElem?_eq_some_iff.mp hlr).1
                have upD : ∀ {G : Hp} (o : HO), Same G2' G → Same G2' (upd G D o) := fun o s b u e => by rw [upd_ne (ne_of_none e hD)]; exact s _ _ e
                repeat walk_at "W"
                refine Wp.addS (by rw [hum]; exact Nat.le_of_lt (small1000 (by show k + 1 ≤ 1000; omega))) ?_
                rw [addC]
                repeat walk_at "W"
                refine Wp.ixt (SqT.of (s4 _ _ (s3 _ _ (s1 _ _ hbm)))) rfl ?_
                refine ⟨_, _, rfl, rfl, ?_⟩
                rw [ends_eq, cl_mk]
                refine ⟨_, hD3, by rw [List.length_map, List.length_map, List.length_take]; exact small1000 (by omega), upD _ s4, ?_⟩
                rw [upd_same, List.take_add_one, hlr, List.map_append, List.map_append]; rfl
              · rintro G3 ⟨s4, hD3⟩
                rw [List.length_map, hbl, List.take_length] at hD3
                repeat walk_at "W"
                refine ⟨D, _, rfl, SqL.of hD3, ?_⟩
                repeat walk_at "W"
                refine hRR _ _ ⟨?_, s4⟩
                unfold fitsEnd
                rw [List.any_map]; rfl
            · rintro b G3 ⟨rfl, s4⟩
              have hA4 := s4 _ _ hA3
              refine Wp.itnb (fun e1 => ?_) (fun e1 => ?_)
              · repeat walk_at "W"
                refine Wp.tyl hA4 ?_
                repeat walk_at "W"
                refine Wp.addS (by rw [hum]; exact Nat.le_of_lt (small1000 (by show k + 1 ≤ 1000; omega))) ?_
                rw [addC]
                repeat walk_at "W"
                refine Wp.app hA4 (by rw [List.length_map, List.length_append]; exact small1000 (by omega)) ?_
                repeat walk_at "W"
                refine ⟨_, _, rfl, upA _ (s3.trans s4), ?_⟩
                rw [upd_same, longerOf_take hc2, if_neg (by rw [e1]; simp), ← List.append_assoc, tx_app _ [u ++ [c]]]; rfl
              · repeat walk_at "W"
                refine ⟨_, _, rfl, s3.trans s4, ?_⟩
                rw [hA4, longerOf_take hc2, if_pos e1, List.append_nil]
          · rintro σ1 G2 ⟨x8, x9, rfl, s3, hA3⟩
            refine ⟨_, _, _, rfl, s3, ?_⟩
            rw [List.take_of_length_le (l := cl sg) (by rw [hcl]; exact Nat.le_refl _)] at hA3
            rw [hA3, longer_take hu]
        · rintro σ1 G ⟨x7, x8, x9, rfl, s2, hA2⟩
          rw [List.length_map, List.take_length] at hA2
          exact hn _ _ ⟨_, _, _, rfl, s2, hA2⟩
      rintro σ' H3 ⟨y7, y8, y9, rfl, s3, hA3⟩
      have hlv1 := @levs_len8 rs (cl sg) (by omega) (k + 1)
      have hp31 := pow8_le (k := k + 1) (by omega)
      have hel := @endsUp_len8 rs (cl sg) (by omega) k (by omega)
      repeat walk_at "W"
      refine .inl ⟨A, _, rfl, .inl (SqL.of hA3), fun L2 hL2 => ?_⟩
      have u2 := Wp.same_upd (o := .lst (tx (levs rs (cl sg) (k + 1)))) hL2
      have v2 := upd_same (H := H3) (a := L2) (o := .lst (tx (levs rs (cl sg) (k + 1))))
      generalize upd H3 L2 (.lst (tx (levs rs (cl sg) (k + 1)))) = G2 at u2 v2 ⊢
      repeat walk_at "W"
      have hbig : (10000 : Nat) < sizeLine := by decide
      refine Wp.addL ⟨Lt, L2, _, _, rfl, rfl, u2 _ _ (s3 _ _ hT), v2, by rw [List.length_map, List.length_map]; omega, fun L3 hL3 => ?_⟩
      have u3 := Wp.same_upd (o := .lst (tx (endsUp rs (cl sg) k) ++ tx (levs rs (cl sg) (k + 1)))) hL3
      repeat walk_at "W"
      have s13 := (s1.trans s3).trans u2
      exact ⟨L3, L2, _, _, _, _, _, rfl, s13.trans u3, s13.free hL3, by rw [upd_same, endsUp_succ, tx_app], u3 _ _ v2⟩
    · rintro σ1 H1 ⟨Lt, Ll, x5, x6, x7, x8, x9, rfl, s1, hLt, hT, hLv⟩
      repeat walk_at "W"
      exact q _ Lt s1 hLt hT
end
end K57
set_option Elab.async false
set_option linter.all false
set_option maxRecDepth 100000
set_option maxHeartbeats 8000000
namespace K57
open PySem PySem.Spec PyProof.Rows L2 Bk
open Wp (Keep wo_lt wo_le wo_gt wo_ge wo_eq wo_ne wo_in wo_nin wo_add wo_mul op_shlB ws_any wc_int wc_isi u65)
abbrev s__law_is_end : Stmt := topS 57
abbrev N__law_is_end : List Str := ["_law_rules", "_law_text_here", "_law_rule"]
theorem sc__law_is_end : FnScope N__law_is_end ["_law_rules", "_law_text_here"] (defScope s__law_is_end) := ⟨rfl, rfl, rfl, by decide +kernel, rfl, by decide +kernel, by decide +kernel⟩


local macro_rules | `(tactic| walk_at "W") => `(tactic| first
  | (with_reducible first
    | refine Wp.seq ?_ | refine Wp.asg ?_ | refine Wp.ret ?_ | refine Wp.retN ?_ | refine Wp.drop ?_ | refine Wp.nxt ?_ | refine Wp.ifs ?_ | refine Wp.gname ?_
    | refine Wp.op ?_ | refine Wp.un ?_ | refine Wp.tst ?_ | refine Wp.tb' ?_ | refine Wp.tnot ?_ | refine Wp.tand ?_ | refine Wp.tor ?_ | refine Wp.tandV ?_ | refine Wp.torV ?_ | refine Wp.tnotV ?_ | refine Wp.tif ?_ | refine Wp.tchain ?_
    | refine Wp.cb ?_ | refine Wp.call ?_ | refine Wp.cons ?_ | refine Wp.nil ?_ | refine Wp.gsub ?_ | refine Wp.cst ?_ | refine Wp.i0 ?_ | refine Wp.int1 ?_ | refine Wp.eb ?_ | refine Wp.ei ?_
    | refine Wp.gnil ?_ | refine Wp.gcons ?_ | refine Wp.mko ?_ | refine Wp.bm ?_ | refine Wp.ienum ?_ | refine Wp.tru ?_ | refine Wp.u1 ?_ | refine Wp.for_ ?_ | refine Wp.lc ?_ | refine Wp.istr ?_ | refine Wp.ilist ?_ | refine Wp.itup ?_ | refine Wp.irng1 ?_ | refine Wp.irng2 ?_ | refine Wp.yes ?_ | refine Wp.es ?_ | refine Wp.er ?_ | refine Wp.sl ?_ | refine Wp.nopart ?_ | refine Wp.part ?_ | refine Wp.lst ?_ | refine Wp.tup ?_
    | refine Wp.din ?_ | refine Wp.dnotin ?_ | refine Wp.dget ?_ | refine Wp.dget2 ?_ | refine Wp.dput ?_ | refine Wp.dnewK ?_ | refine Wp.dnewT ?_ | refine Wp.bm0 ?_ | refine Wp.m1 ?_ | refine Wp.exs ?_ | refine Wp.is0 ?_ | refine Wp.isnot0 ?_ | refine Wp.fld ?_ | refine Wp.sfld ?_
    | refine Wp.par ?_ | refine Wp.parV ?_ | refine Wp.brk ?_ | refine Wp.aug ?_ | refine Wp.ipaI ?_ | refine Wp.ipsI ?_ | refine Bk.ienumS ?_ | refine Wp.make_ ?_ | refine Wp.itnn ?_ | refine Wp.ltI ?_ | refine Wp.leI ?_ | refine Wp.leS ?_ | refine Wp.inSg ?_ | refine Wp.gtI ?_ | refine Wp.geI ?_ | refine Wp.eqI ?_ | refine Wp.neI ?_ | refine Wp.addI ?_ | refine Wp.ltS ?_ | refine Wp.eqS ?_ | refine Wp.neS ?_)
  | ((with_reducible refine' Wp.var ?hv ?_); (case hv => exact rfl))
  | ((with_reducible refine' Wp.ixl ?hs ?he ?_); (case hs => first | exact SqL.of upd_same | exact SqL.of (by assumption) | assumption); (case he => exact rfl))
  | ((with_reducible refine' Wp.setl ?hs ?he ?_); (case hs => first | exact upd_same | assumption); (case he => exact rfl))
  | ((with_reducible refine' Wp.modP ?hs ?_); (case hs => first | decide | omega))
  | ((with_reducible refine' Wp.divN ?hs ?ht ?_); (case hs => first | decide | omega); (case ht => first | decide | omega))
  | ((with_reducible refine' Wp.mulM ?hs ?ht ?_); (case hs => decide); (case ht => decide))
  | ((with_reducible refine' Wp.mulL ?hs ?_); (case hs => omega))
  | ((with_reducible refine' Wp.mulR ?hs ?_); (case hs => omega))
  | ((with_reducible refine' Wp.powS ?hs ?_); (case hs => decide))
  | ((with_reducible refine' Wp.shr ?hs ?_); (case hs => decide))
  | ((with_reducible refine' Wp.szl ?hs ?_); (case hs => first | decide | (simp; done)))
  | ((with_reducible refine' Wp.lenL ?hs ?_); (case hs => first | exact SqL.of upd_same | exact SqL.of (by assumption) | assumption))
  | ((with_reducible refine' Wp.lenT ?hs ?_); (case hs => first | exact SqT.of upd_same | exact SqT.of (by assumption) | assumption))
  | ((with_reducible refine' Wp.iteC ?hs ?_); (case hs => exact rfl)) | ((with_reducible refine' Wp.iteD ?hs ?_); (case hs => exact Bool.false_ne_true))
  | ((with_reducible refine' Wp.wp ?hs ?_); (case hs => rfl))
  | (with_reducible first | refine Wp.abs ?_ | refine Wp.max2 ?_ | refine Wp.min2 ?_)
  | ((with_reducible refine' Wp.sll ?hs ?_); (case hs => first | exact SqL.of upd_same | exact SqL.of (by assumption) | assumption)))
local macro_rules | `(tactic| walk_at "KQ") => `(tactic| first
  | exact Wp.kq "int" rfl (by decide +kernel) | exact Wp.kq "bool" rfl (by decide +kernel) | exact Wp.kq "str" rfl (by decide +kernel) | exact Wp.kq "list" rfl (by decide +kernel)
  | exact Wp.kq "tuple" rfl (by decide +kernel) | exact Wp.kq "NoneType" rfl (by decide +kernel) | exact Wp.kq "dict" rfl (by decide +kernel))

section
variable {P : Program} {w : World} {K : PySem.W.Frag} {mg : Str → Option Value} {base : Heap}
def spIsEnd : Sp := fun vs H Q _ => ∃ t bs rs z, vs = [.ref t, .str z] ∧ RowAt H t (bs.map V.ref) ∧ RulesAt H bs rs ∧ rs.length ≤ 64 ∧ ∀ H' b, Same H H' → (b = true ↔ Irr rs (cl z)) → Q (.bl b) H'
theorem ok_isend (B : Wp.Blt mg) (B_any : mg "any" = none) {f : Addr} {fd : FuncData} (F : Fun K "_law_is_end" "_law_is_end" s__law_is_end f fd) : FnOk P w K mg base CX0 1 f fd ["_law_rules", "_law_text_here"] spIsEnd := by
  refine F.ok sc__law_is_end (fun vs H Q E h => ?_) (fun cdv A outer s H vs Q E hr h => ?_)
  · obtain ⟨t, bs, rs, z, rfl, _⟩ := h
    rfl
  · obtain ⟨t, bs, rs, z, rfl, ht, hb, hl, q⟩ := h
    refine ⟨_, (pss_one (ps_ret (pe_not (pe_callB (Bk.wc_any (K := K) (by rfl)) (by rfl) B_any (by decide +kernel) (pa_cons (pe_lc (own := [("_law_rule", 2)]) (g := gName 2) (by rfl) sc__law_is_end.nd (wi_u (K := K) (pv 0)) (blkOk_by (own := [("_law_rule", 2)]) (N := N__law_is_end) (sc := defScope s__law_is_end) (by decide +kernel)) (fun _ _ _ _ _ => pg_name (i := 2) sc__law_is_end.nd rfl (Or.inl rfl)) (fun _ _ _ _ _ => pts_nil) (fun _ _ _ _ _ => (pe_cmpR (wo_in (K := K) (u65 hr)) (pe_ix (Wp.wx_seq (K := K)) (pv 2) pe_int (fun _ _ => rfl)) (pv 1) (by rfl)))) pa_nil))))), ?_⟩
    refine Wp.st (σ' := [some (.ref t), some (.str z), none]) rfl ?_
    have hbl := hb.len
    repeat walk_at "W"
    refine iu_lc (xs := bs.map V.ref) rfl ht fun D hD => ⟨fun m G => Same H G ∧ G D = some (.lst (((rs.take m).map fun r => (!(Builtin.Str.occurrences z r.1 0 z.length 1).isEmpty)).map V.bl)), ⟨Wp.same_upd hD, upd_same⟩, fun m G h => h.1, ?_, ?_⟩
    · rintro m x G hx ⟨s1, hD1⟩
      obtain ⟨b, ⟨l, r⟩, rfl, hlr, hbm⟩ := rulesAt_take hb hx
      have hml := (List.getElem?_eq_some_iff.mp hlr).1
      have upD : ∀ {G : Hp} (o : HO), Same H G → Same H (upd G D o) := fun o s b u e => by rw [upd_ne (ne_of_none e hD)]; exact s _ _ e
      repeat walk_at "W"
      refine Wp.ixt (SqT.of (s1 _ _ hbm)) rfl ?_
      repeat walk_at "W"
      refine .inr (.inl ⟨l, z, rfl, rfl, ?_⟩)
      refine ⟨_, hD1, by rw [List.length_map, List.length_map, List.length_take]; exact small1000 (by omega), upD _ s1, ?_⟩
      rw [upd_same, List.take_add_one, hlr, List.map_append, List.map_append]; rfl
    · rintro G ⟨s1, hD1⟩
      rw [List.length_map, hbl, List.take_length] at hD1
      repeat walk_at "W"
      refine ⟨D, _, rfl, SqL.of hD1, ?_⟩
      repeat walk_at "W"
      refine q _ _ s1 ?_
      rw [irr_iff, List.any_map, Bool.not_eq_true', List.any_eq_false]
      exact ⟨fun h p hp hx => h p hp ((in_iff z p.1).mpr hx), fun h p hp hx => h p hp ((in_iff z p.1).mp hx)⟩
end
end K57
set_option Elab.async false
set_option linter.all false
set_option maxRecDepth 100000
set_option maxHeartbeats 8000000
namespace K57
open PySem PySem.Spec PyProof.Rows L2 Bk
theorem sg_let : ∀ {l : List Nat} {b : Str}, sgOk b l = true → ∀ c ∈ l, c ≤ 122
  | [], _, _, c, hc => nomatch hc
  | x :: l, b, h, c, hc => by
    have h1 : (!badSign b x && sgOk ⟨#[x]⟩ l) = true := h
    rw [Bool.and_eq_true] at h1
    rcases List.mem_cons.mp hc with z | z
    · rw [z]
      have h2 := h1.1
      unfold badSign leS at h2
      simp at h2
      have h3 := h2.1.2
      refine Nat.le_of_not_lt fun q => h3 ?_
      show [122] < [x]
      exact List.Lex.rel q
    · exact sg_let h1.2 c z
theorem sg_str {S z : Str} (hg : goodSigns (.str S) = true) (h : ∀ c ∈ cl z, c ∈ cl S) : PyData.strOk z = true := by
  have h1 : ((decide (1 ≤ (S.length : Int)) && decide ((S.length : Int) ≤ 8)) && sgOk "" S.cps.toList) = true := hg
  rw [Bool.and_eq_true] at h1
  show (z.cps.all (· < 0x110000)) = true
  rw [← Array.all_toList]
  refine List.all_eq_true.mpr fun c hc => ?_
  have := sg_let h1.2 c (h c hc)
  exact decide_eq_true (by omega)
theorem ShM.p {sh : List (Nat × Nat)} (h : ShM sh) : ShP sh := fun s hs => ⟨(menuP_ok s (h.mem s hs)).2.2.1, (menuP_ok s (h.mem s hs)).2.2.2.1⟩
theorem Sgd.pos {sh : List (Nat × Nat)} {S : List Nat} {As : List Arw} (h : Sgd sh S As) (hm : ShM sh) : 0 < S.length := by
  cases sh with
  | nil => exact absurd rfl hm.ne
  | cons s sh =>
    have hs := hm.p s List.mem_cons_self
    have := h.pl hm.p (k := 0) (i := 0) (c := s.1) (m := s.2) rfl hs.1
    obtain ⟨x, hx, _⟩ := mem_pls.mp this
    exact List.length_pos_of_mem hx
theorem gbk_ok {Pl : Type} {S : Str} {b e : Nat → Pl} {pr : Nat → Nat → Option Nat} {inv : Nat → Nat} {rs : List (Str × Str)} (h : Gbk (cl S) b e pr rs) (g : Gpd (cl S) b e pr inv) : ∀ p ∈ rs, RuleOk S p.1 p.2 := fun p hp => by
  obtain ⟨x, hx, y, hy, hc, rfl⟩ := (h.mem p).mp hp
  have hl := opt_len (pr x y)
  refine ⟨by simp [len_mk], by rw [len_mk]; omega, by simp only [len_mk]; simp; omega, fun c hcc => ?_, fun c hcc => ?_⟩
  · rw [show (mkS [x, y]).cps.toList = [x, y] from cl_mk _] at hcc
    simp at hcc
    rcases hcc with z | z
    · rw [z]; exact hx
    · rw [z]; exact hy
  · rw [show (mkS (pr x y).toList).cps.toList = (pr x y).toList from cl_mk _] at hcc
    cases hp : pr x y with
    | none => rw [hp] at hcc; cases hcc
    | some u =>
      rw [hp] at hcc
      rw [List.mem_singleton.mp hcc]
      exact (g.cl x hx y hy hc u hp).1
theorem gbk_len {Pl : Type} [DecidableEq Pl] {S : Str} {b e : Nat → Pl} {pr : Nat → Nat → Option Nat} {rs : List (Str × Str)} (h : Gbk (cl S) b e pr rs) (hl : S.length ≤ 8) : rs.length ≤ 64 := by
  have h1 := nodup_le (vs := grpL b e pr (cl S) (cl S)) h.nd fun p hp => by
    obtain ⟨x, hx, y, hy, hc, rfl⟩ := (h.mem p).mp hp
    unfold grpL
    exact List.mem_flatMap.mpr ⟨x, hx, mem_rowG.mpr ⟨y, hy, hc, rfl⟩⟩
  have h2 := @grpL_len _ _ b e pr (cl S) (cl S)
  rw [len_cl] at h2
  have h3 : S.length * S.length ≤ 8 * 8 := Nat.mul_le_mul hl hl
  omega
end K57

set_option Elab.async false
set_option linter.all false
set_option maxRecDepth 100000
set_option maxHeartbeats 8000000
namespace K57
open PySem PySem.Spec PyProof.Rows L2 Bk
open Wp (Keep wo_lt wo_le wo_gt wo_ge wo_eq wo_ne wo_in wo_nin wo_add wo_mul op_shlB ws_any wc_int wc_isi u65)
abbrev s_law : Stmt := topS 69
abbrev N_law : List Str := ["_law_script", "_law_source_here", "_law_signs", "_law_rules", "_law_arrow_of", "_law_book", "_law_undo_here", "_law_small", "_law_turn", "_law_draws", "_law_text_here", "_law_beside", "_law_due", "_law_number", "_law_told", "raised", "_law_goal", "_law_end", "_law_worth"]
theorem sc_law : FnScope N_law ["_law_script"] (defScope s_law) := ⟨rfl, rfl, rfl, by decide +kernel, rfl, by decide +kernel, by decide +kernel⟩
local macro_rules | `(tactic| walk_at "W") => `(tactic| first
  | (with_reducible first
    | refine Wp.seq ?_ | refine Wp.asg ?_ | refine Wp.ret ?_ | refine Wp.retN ?_ | refine Wp.drop ?_ | refine Wp.nxt ?_ | refine Wp.ifs ?_ | refine Wp.gname ?_
    | refine Wp.op ?_ | refine Wp.un ?_ | refine Wp.tst ?_ | refine Wp.tb' ?_ | refine Wp.tnot ?_ | refine Wp.tand ?_ | refine Wp.tor ?_ | refine Wp.tandV ?_ | refine Wp.torV ?_ | refine Wp.tnotV ?_ | refine Wp.tif ?_ | refine Wp.tchain ?_
    | refine Wp.cb ?_ | refine Wp.call ?_ | refine Wp.cons ?_ | refine Wp.nil ?_ | refine Wp.gsub ?_ | refine Wp.cst ?_ | refine Wp.i0 ?_ | refine Wp.int1 ?_ | refine Wp.eb ?_ | refine Wp.ei ?_
    | refine Wp.gnil ?_ | refine Wp.gcons ?_ | refine Wp.mko ?_ | refine Wp.bm ?_ | refine Wp.ienum ?_ | refine Wp.tru ?_ | refine Wp.u1 ?_ | refine Wp.for_ ?_ | refine Wp.lc ?_ | refine Wp.istr ?_ | refine Wp.ilist ?_ | refine Wp.itup ?_ | refine Wp.irng1 ?_ | refine Wp.irng2 ?_ | refine Wp.yes ?_ | refine Wp.es ?_ | refine Wp.er ?_ | refine Wp.sl ?_ | refine Wp.nopart ?_ | refine Wp.part ?_ | refine Wp.lst ?_ | refine Wp.tup ?_
    | refine Wp.din ?_ | refine Wp.dnotin ?_ | refine Wp.dget ?_ | refine Wp.dget2 ?_ | refine Wp.dput ?_ | refine Wp.dnewK ?_ | refine Wp.dnewT ?_ | refine Wp.bm0 ?_ | refine Wp.m1 ?_ | refine Wp.exs ?_ | refine Wp.is0 ?_ | refine Wp.isnot0 ?_ | refine Wp.fld ?_ | refine Wp.sfld ?_
    | refine Wp.par ?_ | refine Wp.parV ?_ | refine Wp.brk ?_ | refine Wp.aug ?_ | refine Wp.ipaI ?_ | refine Wp.ipsI ?_ | refine Bk.ienumS ?_ | refine Wp.make_ ?_ | refine Wp.itnn ?_ | refine Wp.ltI ?_ | refine Wp.leI ?_ | refine Wp.leS ?_ | refine Wp.inSg ?_ | refine Wp.gtI ?_ | refine Wp.geI ?_ | refine Wp.eqI ?_ | refine Wp.neI ?_ | refine Wp.addI ?_ | refine Wp.ltS ?_ | refine Wp.eqS ?_ | refine Wp.neS ?_
    | refine Bk.ckw ?_ | refine Bk.callS ?_ | refine Bk.clAs ?_ | refine Bk.notL ?_ | refine Bk.revT ?_)
  | ((with_reducible refine' Wp.var ?hv ?_); (case hv => exact rfl))
  | ((with_reducible refine' Wp.ixl ?hs ?he ?_); (case hs => first | exact SqL.of upd_same | exact SqL.of (by assumption) | assumption); (case he => exact rfl))
  | ((with_reducible refine' Wp.setl ?hs ?he ?_); (case hs => first | exact upd_same | assumption); (case he => exact rfl))
  | ((with_reducible refine' Wp.modP ?hs ?_); (case hs => first | decide | omega))
  | ((with_reducible refine' Wp.divN ?hs ?ht ?_); (case hs => first | decide | omega); (case ht => first | decide | omega))
  | ((with_reducible refine' Wp.mulM ?hs ?ht ?_); (case hs => decide); (case ht => decide))
  | ((with_reducible refine' Wp.mulL ?hs ?_); (case hs => omega))
  | ((with_reducible refine' Wp.mulR ?hs ?_); (case hs => omega))
  | ((with_reducible refine' Wp.powS ?hs ?_); (case hs => decide))
  | ((with_reducible refine' Wp.shr ?hs ?_); (case hs => decide))
  | ((with_reducible refine' Wp.szl ?hs ?_); (case hs => first | decide | (simp; done)))
  | ((with_reducible refine' Wp.lenL ?hs ?_); (case hs => first | exact SqL.of upd_same | exact SqL.of (by assumption) | assumption))
  | ((with_reducible refine' Wp.lenT ?hs ?_); (case hs => first | exact SqT.of upd_same | exact SqT.of (by assumption) | assumption))
  | ((with_reducible refine' Wp.iteC ?hs ?_); (case hs => exact rfl)) | ((with_reducible refine' Wp.iteD ?hs ?_); (case hs => exact Bool.false_ne_true))
  | ((with_reducible refine' Wp.wp ?hs ?_); (case hs => rfl))
  | (with_reducible first | refine Wp.abs ?_ | refine Wp.max2 ?_ | refine Wp.min2 ?_)
  | ((with_reducible refine' Wp.sll ?hs ?_); (case hs => first | exact SqL.of upd_same | exact SqL.of (by assumption) | assumption)))
local macro_rules | `(tactic| walk_at "KQ") => `(tactic| first
  | exact Wp.kq "int" rfl (by decide +kernel) | exact Wp.kq "bool" rfl (by decide +kernel) | exact Wp.kq "str" rfl (by decide +kernel) | exact Wp.kq "list" rfl (by decide +kernel)
  | exact Wp.kq "tuple" rfl (by decide +kernel) | exact Wp.kq "NoneType" rfl (by decide +kernel) | exact Wp.kq "dict" rfl (by decide +kernel))

section
variable {P : Program} {w : World} {K : PySem.W.Frag} {mg : Str → Option Value} {base : Heap}
/-- the least number so far, going down from nine -/
def DueI (rs : List (Str × Str)) (u : List Nat) (i : Nat) (o : Option Nat) : Prop := (o = none ∧ ∀ n, 9 - i < n → n ≤ 9 → ¬ pz rs u n) ∨ ∃ n, o = some n ∧ 9 - i < n ∧ n ≤ 9 ∧ pz rs u n ∧ ∀ k, 9 - i < k → k < n → ¬ pz rs u k
theorem DueI.done {rs : List (Str × Str)} {u : List Nat} {o : Option Nat} (h : DueI rs u 9 o) : o = dueN rs u := by
  rcases h with ⟨rfl, h⟩ | ⟨n, rfl, h1, h2, h3, h4⟩
  · unfold dueN
    rw [List.find?_eq_none.mpr fun k hk => by
      rw [decide_eq_true_eq]
      rw [List.mem_range] at hk
      exact h (k + 1) (by omega) (by omega)]
    rfl
  · exact (dueN_some (by omega) h2 h3 fun k k0 k1 => h4 k (by omega) k1).symm
theorem DueI.step {rs : List (Str × Str)} {u : List Nat} {o : Option Nat} {i : Nat} (hi : i < 9) (h : DueI rs u i o) : DueI rs u (i + 1) (if pz rs u (9 - i) then some (9 - i) else o) := by
  by_cases hz : pz rs u (9 - i)
  · rw [if_pos hz]
    exact .inr ⟨9 - i, rfl, by omega, by omega, hz, fun k k0 k1 => by omega⟩
  · rw [if_neg hz]
    rcases h with ⟨rfl, h⟩ | ⟨n, rfl, h1, h2, h3, h4⟩
    · refine .inl ⟨rfl, fun n n0 n1 => ?_⟩
      rcases Nat.lt_or_ge (9 - i) n with q | q
      · exact h n q n1
      · rw [show n = 9 - i by omega]; exact hz
    · refine .inr ⟨n, rfl, by omega, h2, h3, fun k k0 k1 => ?_⟩
      rcases Nat.lt_or_ge (9 - i) k with q | q
      · exact h4 k q k1
      · rw [show k = 9 - i by omega]; exact hz
theorem due_le {rs : List (Str × Str)} {u : List Nat} {n : Nat} (h : dueN rs u = some n) : n ≤ 9 := by
  unfold dueN at h
  obtain ⟨k, hk, rfl⟩ := Option.map_eq_some_iff.mp h
  have := List.mem_range.mp (List.mem_of_find?_eq_some hk)
  omega
def shwV : V → Str
  | .int i => toString i
  | _ => "None"
theorem reprN {K : PySem.W.Frag} {H : Hp} {Q : VK} {n : Nat} (hn : n < 1000) (q : Q (.str (toString ((n : Nat) : Int))) H) : Bk.rReprU K [.int (n : Nat)] H Q := by
  refine .inr (.inr (.inl ⟨_, rfl, ?_, q⟩))
  have : n.log2 ≤ n := Nat.log2_le_self n
  show Nat.log2 ((n : Nat) : Int).natAbs < 1920
  rw [Int.natAbs_natCast]
  omega
theorem neSame {K : PySem.W.Frag} {H : Hp} {Q : VK} {a b : V} {d : PyData} (ha : Dp K H a d) (hb : Dp K H b d) (hs : SeqAt.shaped d = true) (he : PyData.eqv d d = true) (q : Q (.bl false) H) : Wp.rNeU K a b H Q := .inr ⟨d, d, ha, hb, hs, hs, by rw [he]; exact q⟩
def spLaw (K : PySem.W.Frag) : Sp := fun vs H Q _ => ∃ (a : Addr) (ns : List Int), vs = [.ref a] ∧ SqL K H a (ns.map V.int) ∧ ns.length ≤ 63 ∧ (∀ z ∈ ns, Builtin.Int.intBits z ≤ 1048576) ∧ ∀ H', Q (.bl true) H'
theorem top_law (B : Wp.Blt mg) {f fS fG fH fP fT fX fL fU fO fI fK fE fM fN C CS CB CH CR : Addr} {fd fdS fdG fdH fdP fdT fdX fdL fdU fdO fdI fdK fdE fdM fdN : FuncData} (F : Fun K "law" "law" s_law f fd) (TB : BkC K C)
    (D__law_source : Wp.Dh K mg "_law_source" fS fdS ["_law_script", "_law_place"]) (G__law_source : FnOk P w K mg base CX0 1 fS fdS ["_law_script", "_law_place"] (spSource K))
    (D__law_pick : Wp.Dh K mg "_law_pick" fK fdK ["_law_source_here", "_law_many"]) (G__law_pick : FnOk P w K mg base CX0 1 fK fdK ["_law_source_here", "_law_many"] spPick)
    (D__law_left : Wp.Dh K mg "_law_left" fE fdE ["_law_rules", "_law_text_here"]) (G__law_left : FnOk P w K mg base CX0 1 fE fdE ["_law_rules", "_law_text_here"] spLLeft)
    (D__law_is_end : Wp.Dh K mg "_law_is_end" fM fdM ["_law_rules", "_law_text_here"]) (G__law_is_end : FnOk P w K mg base CX0 1 fM fdM ["_law_rules", "_law_text_here"] spIsEnd)
    (D__law_ends : Wp.Dh K mg "_law_ends" fN fdN ["_law_signs", "_law_rules", "_law_size"]) (G__law_ends : FnOk P w K mg base CX0 1 fN fdN ["_law_signs", "_law_rules", "_law_size"] spLEnds)
    (D__law_group_parts : Wp.Dh K mg "_law_group_parts" fG fdG ["_law_source_here"]) (G__law_group_parts : FnOk P w K mg base CX0 3 fG fdG ["_law_source_here"] spGparts)
    (D__law_group : Wp.Dh K mg "_law_group" fH fdH ["_law_source_here", "_law_shapes"]) (G__law_group : FnOk P w K mg base CX0 3 fH fdH ["_law_source_here", "_law_shapes"] spGroup)
    (D__law_power : Wp.Dh K mg "_law_power" fP fdP ["_law_rules", "_law_text_here", "_law_number"]) (G__law_power : FnOk P w K mg base CX0 2 fP fdP ["_law_rules", "_law_text_here", "_law_number"] spLPower)
    (D__law_text : Wp.Dh K mg "_law_text" fT fdT ["_law_source_here", "_law_signs", "_law_most"]) (G__law_text : FnOk P w K mg base CX0 2 fT fdT ["_law_source_here", "_law_signs", "_law_most"] spGText)
    (D__law_group_text : Wp.Dh K mg "_law_group_text" fX fdX ["_law_source_here", "_law_signs", "_law_rules", "_law_undo_here", "_law_arrow_of"]) (G__law_group_text : FnOk P w K mg base CX0 3 fX fdX ["_law_source_here", "_law_signs", "_law_rules", "_law_undo_here", "_law_arrow_of"] spGTxt)
    (D__law_undo : Wp.Dh K mg "_law_undo" fL fdL ["_law_signs", "_law_rules"]) (G__law_undo : FnOk P w K mg base CX0 1 fL fdL ["_law_signs", "_law_rules"] spLUndo)
    (D__law_undone : Wp.Dh K mg "_law_undone" fU fdU ["_law_undo_here", "_law_text_here"]) (G__law_undone : FnOk P w K mg base CX0 1 fU fdU ["_law_undo_here", "_law_text_here"] spLUndone)
    {fQ : Addr} {fdQ : FuncData} (D__law_times : Wp.Dh K mg "_law_times" fQ fdQ ["_law_rules", "_law_text_here"]) (G__law_times : FnOk P w K mg base CX0 2 fQ fdQ ["_law_rules", "_law_text_here"] spLTimes)
    (D_root : Wp.Dh K mg "root" fO fdO ["book", "text"]) (G_root : FnOk P w K mg base (L2.CX P w) 6 fO fdO ["book", "text"] (spRoot C CH))
    (M_Book : Mk K C fI) (k_Book : mg "Book" = some (.ref C)) (G_Book : FnOk P w K mg base (L2.CX P w) 5 fI fdI ["self", "signs", "rules"] (spBook K C CS CB)) (b_Book : Binds K fdI ["self", "signs", "rules"] [])
    (TH : Ca K mg "HasOrder" CH "number") (k_ShrunkError : mg "ShrunkError" = some (.ref CR)) (isR : PySem.W.kitOne K (.ref CH) (.ref CR) = some true) : Wp.FnTop P w K mg base CX0 f fd ["_law_script"] (spLaw K) := by
  refine Wp.top_of F sc_law (k := 10) (fun vs H Q E h => ?_) ⟨rfl, by decide, by decide⟩ (fun cdv s H vs Q E hr h => ?_)
  · obtain ⟨a, ns, rfl, _⟩ := h
    rfl
  · obtain ⟨a0, zs, rfl, hS, hlen, hbits, q⟩ := h
    have hu65 := u65 hr
    have hgt : (callerA.deeper (envOfC "law" (defScope s_law) s.heap.objs.size f cdv)).guards = some [] := Wp.guards_top
    refine ⟨_, (pss_cons (ps_set (i := 1) sc_law.nd rfl (by first | exact .inl rfl | exact .inr rfl) (pe_call G__law_source (hr.mono (by decide)) (by rfl) D__law_source.g D__law_source.k D__law_source.b .nil pass0 (pa_cons (pv 0) (pa_cons pe_int pa_nil))))
  (pss_cons (ps_asg (pe_call G__law_group (hr.mono (by decide)) (by rfl) D__law_group.g D__law_group.k D__law_group.b .nil pass0 (pa_cons (pv 1) (pa_cons (pe_call G__law_group_parts (hr.mono (by decide)) (by rfl) D__law_group_parts.g D__law_group_parts.k D__law_group_parts.b .nil pass0 (pa_cons (pe_call G__law_source (hr.mono (by decide)) (by rfl) D__law_source.g D__law_source.k D__law_source.b .nil pass0 (pa_cons (pv 0) (pa_cons pe_int pa_nil))) pa_nil)) pa_nil))) (Wp.wg_tup (K := K) (n := 3) rfl (pgs_cons (pg_name (i := 2) sc_law.nd rfl (by first | exact .inl rfl | exact .inr rfl)) (pgs_cons (pg_name (i := 3) sc_law.nd rfl (by first | exact .inl rfl | exact .inr rfl)) (pgs_cons (pg_name (i := 4) sc_law.nd rfl (by first | exact .inl rfl | exact .inr rfl)) pgs_nil)))))
  (pss_cons (ps_set (i := 5) sc_law.nd rfl (by first | exact .inl rfl | exact .inr rfl) (pe_make M_Book G_Book (hr.mono (by decide)) (by rfl) k_Book b_Book .nil Wp.passX0 (pa_cons (pv 2) (pa_cons (pv 3) pa_nil))))
  (pss_cons (ps_set (i := 6) sc_law.nd rfl (by first | exact .inl rfl | exact .inr rfl) (pe_call G__law_undo (hr.mono (by decide)) (by rfl) D__law_undo.g D__law_undo.k D__law_undo.b .nil pass0 (pa_cons (pv 2) (pa_cons (pv 3) pa_nil))))
  (pss_cons (ps_set (i := 7) sc_law.nd rfl (by first | exact .inl rfl | exact .inr rfl) (pe_call G__law_ends (hr.mono (by decide)) (by rfl) D__law_ends.g D__law_ends.k D__law_ends.b .nil pass0 (pa_cons (pv 2) (pa_cons (pv 3) (pa_cons (pe_ifExp (pt_cmpR wo_lt (pe_callB (Wp.wc_len (K := K)) (by rfl) B.len (by decide +kernel) (pa_cons (pv 2) pa_nil)) pe_int (nomark _)) pe_int pe_int) pa_nil)))))
  (pss_cons (ps_for (passes_of rfl) rfl (pi_range1 (by rfl) B.range (pa_cons pe_int pa_nil)) (pg_name (i := 8) sc_law.nd rfl (by first | exact .inl rfl | exact .inr rfl)) (pss_cons (ps_set (i := 9) sc_law.nd rfl (by first | exact .inl rfl | exact .inr rfl) (pe_call G__law_source (hr.mono (by decide)) (by rfl) D__law_source.g D__law_source.k D__law_source.b .nil pass0 (pa_cons (pv 0) (pa_cons (pe_op (wo_add (K := K)) (pv 8) pe_int) pa_nil))))
  (pss_cons (ps_set (i := 10) sc_law.nd rfl (by first | exact .inl rfl | exact .inr rfl) (pe_call G__law_group_text (hr.mono (by decide)) (by rfl) D__law_group_text.g D__law_group_text.k D__law_group_text.b .nil pass0 (pa_cons (pv 9) (pa_cons (pv 2) (pa_cons (pv 3) (pa_cons (pv 6) (pa_cons (pv 4) pa_nil)))))))
  (pss_cons (ps_set (i := 11) sc_law.nd rfl (by first | exact .inl rfl | exact .inr rfl) (pe_call G__law_text (hr.mono (by decide)) (by rfl) D__law_text.g D__law_text.k D__law_text.b .nil pass0 (pa_cons (pv 9) (pa_cons (pv 2) (pa_cons pe_int pa_nil)))))
  (pss_cons (ps_set (i := 10) sc_law.nd rfl (by first | exact .inl rfl | exact .inr rfl) (pe_op (wo_add (K := K)) (pe_op (wo_add (K := K)) (pv 11) (pe_op Bk.wo_repS (pe_call G__law_left (hr.mono (by decide)) (by rfl) D__law_left.g D__law_left.k D__law_left.b .nil pass0 (pa_cons (pv 3) (pa_cons (pv 10) pa_nil))) (pe_op (wo_add (K := K)) pe_int (pe_call G__law_pick (hr.mono (by decide)) (by rfl) D__law_pick.g D__law_pick.k D__law_pick.b .nil pass0 (pa_cons (pv 9) (pa_cons pe_int pa_nil)))))) (pe_call G__law_undone (hr.mono (by decide)) (by rfl) D__law_undone.g D__law_undone.k D__law_undone.b .nil pass0 (pa_cons (pv 6) (pa_cons (pv 11) pa_nil)))))
  (pss_cons (ps_set (i := 12) sc_law.nd rfl (by first | exact .inl rfl | exact .inr rfl) pe_non)
  (pss_cons (ps_for (passes_of rfl) rfl (pi_range3 (by rfl) B.range (pa_cons pe_int (pa_cons pe_int (pa_cons (pe_un un_neg pe_int) pa_nil)))) (pg_name (i := 13) sc_law.nd rfl (by first | exact .inl rfl | exact .inr rfl)) (pss_one (ps_if (pt_cmpR (wo_eq (K := K) hr.units) (pe_call G__law_power (hr.mono (by decide)) (by rfl) D__law_power.g D__law_power.k D__law_power.b .nil pass0 (pa_cons (pv 3) (pa_cons (pv 10) (pa_cons (pv 13) pa_nil)))) pe_str (nomark _)) (pss_one (ps_set (i := 12) sc_law.nd rfl (by first | exact .inl rfl | exact .inr rfl) (pv 13))) pss_nil)))
  (pss_cons (Bk.ps_try_mas (tb := fun W => tSeq (tAsg (tCallS (spRoot C CH) (WE W) (tCons (tVar 5) (tCons (tVar 10) tNil))) (gName 14)) _) rfl rfl sc_law.nd
 (fun W pn xe tk _ => pss_cons (ps_set (i := 14) sc_law.nd rfl (by first | exact .inl rfl | exact .inr rfl) (by exact (pe_callS G_root (hr.mono (by decide)) rfl D_root.g D_root.k D_root.b (fun σ => passAt tk σ) (by exact (pa_cons (pv 5) (pa_cons (pv 10) pa_nil)))))) (pss_one (ps_if (pt_cmpR Wp.wo_isnot (pv 12) pe_non (nomark _)) (pss_one (ps_ret pe_bl)) pss_nil)))
 (.cons (n := some "raised") (o := some 15) ⟨rfl, rfl⟩ ⟨rfl, by decide, Or.inl TH.g⟩ (fun a oe cls d pn hz hf => pss_cons (ps_if (PW.pt (pw_or (pt_cmpR (wo_ne (K := K) hr.units) (pe_callB (Bk.wc_reprU (K := K) hgt hu65) (by rfl) B.repr (by decide +kernel) (pa_cons (pe_xf TH.xf TH.no hz hf (pv 15)) pa_nil)) (pe_callB (Bk.wc_reprU (K := K) hgt hu65) (by rfl) B.repr (by decide +kernel) (pa_cons (pv 12) pa_nil)) (nomark _)) (pw_or1 (pt_not (pt_val (pe_callB (Wp.call_isEd (K := K) TH.ec hz hf) (by rfl) B.isinstance (by decide +kernel) (pa_cons (pv 15) (pa_cons (pe_glob (v := .ref CR) (by rfl) k_ShrunkError rfl) pa_nil))))))))
   (pss_one (ps_ret pe_bl)) pss_nil) (pss_one ps_continue)) .nil))
  (pss_cons (ps_if (PW.pt (pw_or (pt_not (pt_val (pe_callB (wc_isi (K := K)) (by rfl) B.isinstance (by decide +kernel) (pa_cons (pv 14) (pa_cons (pe_bltn (v := .ty "tuple") (by rfl) B.tuple (by decide +kernel) rfl) pa_nil))))) (pw_or (pt_cmpR (wo_ne (K := K) hr.units) (pe_callB (Wp.wc_len (K := K)) (by rfl) B.len (by decide +kernel) (pa_cons (pv 14) pa_nil)) pe_int (nomark _)) (pw_or1 (pt_not (pt_val (pe_callB (wc_isi (K := K)) (by rfl) B.isinstance (by decide +kernel) (pa_cons (pe_ix (Wp.wx_seq (K := K)) (pv 14) pe_int (fun _ _ => rfl)) (pa_cons (pe_bltn (v := .ty "str") (by rfl) B.str (by decide +kernel) rfl) pa_nil))))))))) (pss_one (ps_ret pe_bl)) pss_nil)
  (pss_cons (ps_if (PW.pt (pw_or (pt_cmpR (wo_ne (K := K) hr.units) (pe_callB (Bk.wc_reprU (K := K) Wp.guards_top (u65 hr)) (by rfl) B.repr (by decide +kernel) (pa_cons (pe_ix (Wp.wx_seq (K := K)) (pv 14) pe_int (fun _ _ => rfl)) pa_nil)) (pe_callB (Bk.wc_reprU (K := K) Wp.guards_top (u65 hr)) (by rfl) B.repr (by decide +kernel) (pa_cons (pe_call G__law_times (hr.mono (by decide)) (by rfl) D__law_times.g D__law_times.k D__law_times.b .nil pass0 (pa_cons (pv 3) (pa_cons (pv 10) pa_nil))) pa_nil)) (nomark _)) (pw_or1 (pt_not (pt_val (pe_call G__law_is_end (hr.mono (by decide)) (by rfl) D__law_is_end.g D__law_is_end.k D__law_is_end.b .nil pass0 (pa_cons (pv 3) (pa_cons (pe_ix (Wp.wx_seq (K := K)) (pv 14) pe_int (fun _ _ => rfl)) pa_nil)))))))) (pss_one (ps_ret pe_bl)) pss_nil)
  (pss_cons (ps_if (PW.pt (pw_or (pt_cmpR (wo_ne (K := K) hr.units) (pe_call G__law_power (hr.mono (by decide)) (by rfl) D__law_power.g D__law_power.k D__law_power.b .nil pass0 (pa_cons (pv 3) (pa_cons (pe_ix (Wp.wx_seq (K := K)) (pv 14) pe_int (fun _ _ => rfl)) (pa_cons (pe_ix (Wp.wx_seq (K := K)) (pv 14) pe_int (fun _ _ => rfl)) pa_nil)))) (pe_call G__law_left (hr.mono (by decide)) (by rfl) D__law_left.g D__law_left.k D__law_left.b .nil pass0 (pa_cons (pv 3) (pa_cons (pv 10) pa_nil))) (nomark _)) (pw_or1 (pt_cmpR (wo_ne (K := K) hr.units) (pe_call G_root (hr.mono (by decide)) (by rfl) D_root.g D_root.k D_root.b .nil Wp.passX0 (pa_cons (pv 5) (pa_cons (pe_ix (Wp.wx_seq (K := K)) (pv 14) pe_int (fun _ _ => rfl)) pa_nil))) (pe_tup (pa_cons (pe_ix (Wp.wx_seq (K := K)) (pv 14) pe_int (fun _ _ => rfl)) (pa_cons pe_int pa_nil))) (nomark _))))) (pss_one (ps_ret pe_bl)) pss_nil)
  (pss_cons (ps_set (i := 16) sc_law.nd rfl (by first | exact .inl rfl | exact .inr rfl) (pe_call G__law_left (hr.mono (by decide)) (by rfl) D__law_left.g D__law_left.k D__law_left.b .nil pass0 (pa_cons (pv 3) (pa_cons (pv 10) pa_nil))))
  (pss_one (ps_for (passes_of rfl) rfl (Wp.wi_list (K := K) (pv 7)) (pg_name (i := 17) sc_law.nd rfl (by first | exact .inl rfl | exact .inr rfl)) (pss_cons (ps_set (i := 18) sc_law.nd rfl (by first | exact .inl rfl | exact .inr rfl) pe_str)
  (pss_one (ps_for (passes_of rfl) rfl (pi_range2 (by rfl) B.range (pa_cons pe_int (pa_cons (pe_op (wo_add (K := K)) (pe_ix (Wp.wx_seq (K := K)) (pv 14) pe_int (fun _ _ => rfl)) pe_int) pa_nil))) (pg_name (i := 13) sc_law.nd rfl (by first | exact .inl rfl | exact .inr rfl)) (pss_cons (ps_set (i := 18) sc_law.nd rfl (by first | exact .inl rfl | exact .inr rfl) (pe_call G__law_left (hr.mono (by decide)) (by rfl) D__law_left.g D__law_left.k D__law_left.b .nil pass0 (pa_cons (pv 3) (pa_cons (pe_op (wo_add (K := K)) (pv 18) (pv 17)) pa_nil))))
  (pss_one (ps_if (PW.pt (pw_and (pt_cmpR (wo_eq (K := K) hr.units) (pv 18) (pv 16) (nomark _)) (pw_and1 (PW.pt (pw_or (pt_cmpR wo_gt (pv 13) (pe_ix (Wp.wx_seq (K := K)) (pv 14) pe_int (fun _ _ => rfl)) (nomark _)) (pw_or1 (PW.pt (pw_and (pt_cmpR (wo_eq (K := K) hr.units) (pv 13) (pe_ix (Wp.wx_seq (K := K)) (pv 14) pe_int (fun _ _ => rfl)) (nomark _)) (pw_and1 (pt_cmpR (wo_ne (K := K) hr.units) (pv 17) (pe_ix (Wp.wx_seq (K := K)) (pv 14) pe_int (fun _ _ => rfl)) (nomark _))))))))))) (pss_one (ps_ret pe_bl)) pss_nil))))))))))))))))))))
  (pss_one (ps_ret pe_bl)))))))), ?_⟩
    have hbig : (1000000 : Nat) < sizeLine := by decide
    refine Wp.st (σ' := [some (.ref a0), none, none, none, none, none, none, none, none, none, none, none, none, none, none, none, none, none, none]) rfl ?_
    refine Wp.cutQ (fun σ' H' => ∃ a, σ' = [some (.ref a0), some (.ref a), none, none, none, none, none, none, none, none, none, none, none, none, none, none, none, none, none] ∧ H a = none ∧ Same H H' ∧ Src H' a) (fun nx hn => ?_) ?_
    · repeat walk_at "W"
      refine ⟨a0, zs, 0, rfl, hS, hlen, hbits, by decide, by decide, fun H1 a s1 ha c1 => ?_⟩
      repeat walk_at "W"
      exact hn _ _ ⟨a, rfl, ha, s1, c1⟩
    rintro σ' H1 ⟨a, rfl, ha, s1, c1⟩
    refine Wp.cutQ (fun σ' H' => ∃ S R D sh As rs, σ' = [some (.ref a0), some (.ref a), some (.str S), some (.ref R), some (.ref D), none, none, none, none, none, none, none, none, none, none, none, none, none, none] ∧ Same H H' ∧ ShM sh ∧ Grp H' S sh As rs R D) (fun nx hn => ?_) ?_
    · repeat walk_at "W"
      refine ⟨a0, zs, 1, rfl, s1.seq hS, hlen, hbits, by decide, by decide, fun H2 a1 s2 ha1 c2 => ?_⟩
      repeat walk_at "W"
      refine ⟨a1, rfl, c2, fun H3 L sh k3 hL0 hL hsh => ?_⟩
      have haa : a ≠ a1 := fun e => by
        obtain ⟨d, s, c, e2⟩ := c1
        rw [e, ha1] at e2; cases e2
      have c3 : Src H3 a := by
        obtain ⟨d, s, c, e2⟩ := c1
        exact ⟨d, s, c, k3 _ _ haa (s2 _ _ e2)⟩
      have hLa : L ≠ a := fun e => by
        obtain ⟨d, s, c, e2⟩ := c1
        rw [e, s2 _ _ e2] at hL0; cases hL0
      repeat walk_at "W"
      refine ⟨a, L, sh, rfl, c3, hLa, hL, hsh, fun H4 T S As rs R D k4 hT hG => ?_⟩
      repeat walk_at "W"
      refine Wp.gt (xs := [V.str S, V.ref R, V.ref D]) (SqT.of hT) rfl ?_
      repeat walk_at "W"
      exact hn _ _ ⟨S, R, D, sh, As, rs, rfl, fun b o e => k4 b o (ne_of_none e ha) (k3 b o (ne_of_none (s1 _ _ e) ha1) (s2 _ _ (s1 _ _ e))), hsh, hG⟩
    rintro σ' H2 ⟨S, R, D, sh, As, rs, rfl, s2, hsh, hG⟩
    obtain ⟨bs, hR, hRs⟩ := hG.rok
    have g := hG.sg.gpd
    have hSp := Sgd.pos hG.sg hsh
    rw [len_cl] at hSp
    have h64 := gbk_len hG.bk hG.le
    have hle8 := hG.le
    refine Wp.cutQ (fun σ' H' => ∃ p, σ' = [some (.ref a0), some (.ref a), some (.str S), some (.ref R), some (.ref D), some (.ref p), none, none, none, none, none, none, none, none, none, none, none, none, none] ∧ Same H2 H' ∧ BookAt C H' p S rs) (fun nx hn => ?_) ?_
    · repeat walk_at "W"
      refine book_make0 hG.le hG.good hR hRs (gbk_ok hG.bk g) hG.bk.nd h64 fun p H3 s3 hB => ?_
      repeat walk_at "W"
      exact hn _ _ ⟨p, rfl, s3, hB⟩
    rintro σ' H3 ⟨p, rfl, s3, hB⟩
    refine Wp.cutQ (fun σ' H' => ∃ U, σ' = [some (.ref a0), some (.ref a), some (.str S), some (.ref R), some (.ref D), some (.ref p), some (.ref U), none, none, none, none, none, none, none, none, none, none, none, none] ∧ Same H3 H' ∧ UnAt H' U (cl S) (invS sh (cl S) As)) (fun nx hn => ?_) ?_
    · repeat walk_at "W"
      refine ⟨S, R, bs, rs, _, _, _, _, rfl, hG.le, s3 _ _ hR, hRs.same s3, hG.bk, g, h64, fun H4 U s4 hU => ?_⟩
      repeat walk_at "W"
      exact hn _ _ ⟨U, rfl, s4, hU⟩
    rintro σ' H4 ⟨U, rfl, s4, hU⟩
    have s24 := s3.trans s4
    have s04 := s2.trans s24
    refine Wp.cutQ (fun σ' H' => ∃ L n, σ' = [some (.ref a0), some (.ref a), some (.str S), some (.ref R), some (.ref D), some (.ref p), some (.ref U), some (.ref L), none, none, none, none, none, none, none, none, none, none, none] ∧ Same H4 H' ∧ n ≤ 3 ∧ H' L = some (.lst (tx (endsUp rs (cl S) n)))) (fun nx hn => ?_) ?_
    · repeat walk_at "W"
      refine Wp.lenS (by omega) ?_
      repeat walk_at "W"
      refine Wp.itd (fun e1 => ?_) (fun e1 => ?_)
      · repeat walk_at "W"
        refine ⟨S, R, bs, rs, 3, rfl, .inr (s24 _ _ hR), hRs.same s24, h64, hG.bk.good, hle8, by decide, fun H5 L s5 _ hL => ?_⟩
        repeat walk_at "W"
        exact hn _ _ ⟨L, 3, rfl, s5, by decide, hL⟩
      · repeat walk_at "W"
        refine ⟨S, R, bs, rs, 2, rfl, .inr (s24 _ _ hR), hRs.same s24, h64, hG.bk.good, hle8, by decide, fun H5 L s5 _ hL => ?_⟩
        repeat walk_at "W"
        exact hn _ _ ⟨L, 2, rfl, s5, by decide, hL⟩
    rintro σ' H4b ⟨L, nE, rfl, s4b, hnE, hL⟩
    have hUb := hU.same s4b
    have s24b := s24.trans s4b
    have s04b := s04.trans s4b
    refine Wp.cutQ (fun σ' H' => ∃ x8 x9 x10 x11 x12 x13 x14 x15 x16 x17 x18, σ' = [some (.ref a0), some (.ref a), some (.str S), some (.ref R), some (.ref D), some (.ref p), some (.ref U), some (.ref L), x8, x9, x10, x11, x12, x13, x14, x15, x16, x17, x18] ∧ Same H4b H') (fun nx hn => ?_) ?_
    · repeat walk_at "W"
      refine ⟨3, rfl, by decide, by decide, ?_⟩
      refine Wp.forIt walk_range (fun i σ1 G => ∃ x8 x9 x10 x11 x12 x13 x14 x15 x16 x17 x18, σ1 = [some (.ref a0), some (.ref a), some (.str S), some (.ref R), some (.ref D), some (.ref p), some (.ref U), some (.ref L), x8, x9, x10, x11, x12, x13, x14, x15, x16, x17, x18] ∧ Same H4b G) ⟨_, _, _, _, _, _, _, _, _, _, _, rfl, Same.refl _⟩ (fun _ _ _ _ _ => trivial) ?_ ?_
      · rintro i y σ1 G G' hi ⟨x8, x9, x10, x11, x12, x13, x14, x15, x16, x17, x18, rfl, s5⟩ ⟨rfl, hy⟩
        obtain rfl : y = .int (i : Nat) := by rw [hy]; exact congrArg V.int (by omega)
        have hi4 : i < 3 := hi
        have s45 := s24b.trans s5
        have hGg := hG.same s45
        have hUg := hUb.same s5
        have hBg := hB.same ((s4.trans s4b).trans s5)
        have hLg := s5 _ _ hL
        refine Wp.gname ?_
        refine Wp.cutQ (fun σ' H' => ∃ d, σ' = [some (.ref a0), some (.ref a), some (.str S), some (.ref R), some (.ref D), some (.ref p), some (.ref U), some (.ref L), some (.int (i : Nat)), some (.ref d), x10, x11, x12, x13, x14, x15, x16, x17, x18] ∧ G' d = none ∧ Same G' H' ∧ Src H' d) (fun nx hn => ?_) ?_
        · repeat walk_at "W"
          refine ⟨a0, zs, (i : Int) + 2, rfl, (s04b.trans s5).seq hS, hlen, hbits, by omega, by omega, fun H5 d s6 hd c6 => ?_⟩
          repeat walk_at "W"
          exact hn _ _ ⟨d, rfl, hd, s6, c6⟩
        rintro σ' H5 ⟨d, rfl, hd, s6, c6⟩
        refine Wp.cutQ (fun σ' H' => ∃ z, σ' = [some (.ref a0), some (.ref a), some (.str S), some (.ref R), some (.ref D), some (.ref p), some (.ref U), some (.ref L), some (.int (i : Nat)), some (.ref d), some (.str z), x11, x12, x13, x14, x15, x16, x17, x18] ∧ Same G' H' ∧ Src H' d ∧ z.length ≤ 13 ∧ over S z) (fun nx hn => ?_) ?_
        · repeat walk_at "W"
          refine ⟨d, S, sh, As, rs, R, D, U, rfl, c6, hSp, h64, hGg.same s6, hUg.same s6, fun H6 z k7 c7 hzl hzo => ?_⟩
          repeat walk_at "W"
          exact hn _ _ ⟨z, rfl, fun b o e => k7 b o (ne_of_none e hd) (s6 _ _ e), c7, hzl, hzo⟩
        rintro σ' H6 ⟨z, rfl, s7, c7, hzl, hzo⟩
        refine Wp.cutQ (fun σ' H' => ∃ y, σ' = [some (.ref a0), some (.ref a), some (.str S), some (.ref R), some (.ref D), some (.ref p), some (.ref U), some (.ref L), some (.int (i : Nat)), some (.ref d), some (.str z), some (.str y), x12, x13, x14, x15, x16, x17, x18] ∧ Same G' H' ∧ Src H' d ∧ y.length ≤ 2 ∧ over S y) (fun nx hn => ?_) ?_
        · repeat walk_at "W"
          refine ⟨d, S, 2, rfl, c7, hSp, hle8, by decide, by decide, fun H9 y k10 c10 hyl hyo => ?_⟩
          repeat walk_at "W"
          exact hn _ _ ⟨y, rfl, fun b o e => k10 b o (ne_of_none e hd) (s7 _ _ e), c10, by omega, hyo⟩
        rintro σ' H7 ⟨y, rfl, s8, c8, hyl, hyo⟩
        refine Wp.cutQ (fun σ' H' => ∃ T, σ' = [some (.ref a0), some (.ref a), some (.str S), some (.ref R), some (.ref D), some (.ref p), some (.ref U), some (.ref L), some (.int (i : Nat)), some (.ref d), some (.str T), some (.str y), x12, x13, x14, x15, x16, x17, x18] ∧ Same G' H' ∧ T.length ≤ 56 ∧ over S T) (fun nx hn => ?_) ?_
        · obtain ⟨bs2, hR2, hRs2⟩ := (hGg.same s8).rok
          obtain ⟨om, ol⟩ := hG.bk.over_mem g hzo
          rw [len_cl] at ol
          have hily : (invT (invS sh (cl S) As) (cl y)).length = y.length := by
            unfold invT
            rw [List.length_map, List.length_reverse, len_cl]
          have hmy := g.inv_mem hyo
          repeat walk_at "W"
          refine ⟨R, bs2, rs, z, rfl, .inr hR2, hRs2, h64, hG.bk.good, by omega, fun H8 s9 => ?_⟩
          have c9 : Src H8 d := by
            obtain ⟨x1, x2, x3, e⟩ := c8
            exact ⟨x1, x2, x3, s9 _ _ e⟩
          repeat walk_at "W"
          refine ⟨d, 4, rfl, c9, by decide, by decide, fun r H9 r0 r1 k10 c10 => ?_⟩
          obtain ⟨n, rfl⟩ := Int.eq_ofNat_of_zero_le r0
          have s89 : Same G' H9 := fun b o e => k10 b o (ne_of_none e hd) (s9 _ _ (s8 _ _ e))
          repeat walk_at "W"
          have en : (1 : Int) + ((n : Nat) : Int) = ((n + 1 : Nat) : Int) := by omega
          rw [en]
          have hol : (overP rs (cl z)).length ≤ 13 := by omega
          refine ⟨_, _, rfl, rfl, mulT_ok (by rw [len_mk]; omega) (by omega), ?_⟩
          have hml : (Txt.mul (mkS (overP rs (cl z))) ((n + 1 : Nat) : Int)).length ≤ 52 := by
            rw [← len_cl, mulT_cl, powT_len, cl_mk]
            exact Nat.le_trans (Nat.mul_le_mul (show n + 1 ≤ 4 by omega) hol) (by decide)
          have hmo : over S (Txt.mul (mkS (overP rs (cl z))) ((n + 1 : Nat) : Int)) := fun c hc => by
            rw [mulT_cl, cl_mk] at hc
            exact om c (powT_mem hc)
          generalize Txt.mul (mkS (overP rs (cl z))) ((n + 1 : Nat) : Int) = m at hml hmo
          refine Wp.addS (by omega) ?_
          repeat walk_at "W"
          refine ⟨S, y, U, _, rfl, hUg.same s89, hyo, by omega, fun H10 s11 => ?_⟩
          refine Wp.addS (by rw [len_app, len_mk, hily]; omega) ?_
          repeat walk_at "W"
          exact hn _ _ ⟨_, rfl, s89.trans s11, by rw [len_app, len_app, len_mk, hily]; omega, over_cat (over_cat hyo hmo) fun c hc => hmy c (by rw [← cl_mk (invT _ _)]; exact hc)⟩
        rintro σ' H8 ⟨T, rfl, s9, hTl, hTo⟩
        refine Wp.cutQ (fun σ' H' => σ' = [some (.ref a0), some (.ref a), some (.str S), some (.ref R), some (.ref D), some (.ref p), some (.ref U), some (.ref L), some (.int (i : Nat)), some (.ref d), some (.str T), some (.str y), some .non, x13, x14, x15, x16, x17, x18] ∧ H8 = H') (fun nx hn => ?_) ?_
        · repeat walk_at "W"
          exact hn _ _ ⟨rfl, rfl⟩
        rintro σ' H8' ⟨rfl, e6⟩
        subst e6
        refine Wp.cutQ (fun σ' H' => ∃ x13, σ' = [some (.ref a0), some (.ref a), some (.str S), some (.ref R), some (.ref D), some (.ref p), some (.ref U), some (.ref L), some (.int (i : Nat)), some (.ref d), some (.str T), some (.str y), some (dueV (dueN rs (cl T))), x13, x14, x15, x16, x17, x18] ∧ Same H8 H') (fun nx hn => ?_) ?_
        · repeat walk_at "W"
          refine ⟨_, rfl, ?_⟩
          repeat walk_at "W"
          refine ⟨9, 0, -1, 9, rfl, RgC.neg (by decide) (by decide) (by decide) (by decide), ?_⟩
          refine Wp.forIt walk_rangeC (fun m σ1 G2 => ∃ x13 o, σ1 = [some (.ref a0), some (.ref a), some (.str S), some (.ref R), some (.ref D), some (.ref p), some (.ref U), some (.ref L), some (.int (i : Nat)), some (.ref d), some (.str T), some (.str y), some (dueV o), x13, x14, x15, x16, x17, x18] ∧ Same H8 G2 ∧ DueI rs (cl T) m o) ⟨_, none, rfl, Same.refl _, .inl ⟨rfl, fun n h0 h1 => by omega⟩⟩ (fun _ _ _ _ _ => trivial) ?_ ?_
          · rintro m y2 σ1 G2 G3 hm ⟨y13, o, rfl, s10, hD⟩ ⟨rfl, hy2⟩
            obtain rfl : y2 = .int ((9 - m : Nat) : Int) := by rw [hy2]; exact congrArg V.int (by omega)
            obtain ⟨bs2, hR2, hRs2⟩ := (hGg.same (s9.trans s10)).rok
            repeat walk_at "W"
            refine ⟨S, T, R, bs2, rs, _, _, _, _, 9 - m, rfl, hR2, hRs2, hG.bk, g, h64, hTo, by omega, fun j hj => ?_, by omega, fun H7 s11 => ?_⟩
            · have h1 := (hG.bk.over_mem g (u := powT (cl T) j) fun c hc => hTo c (powT_mem hc)).2
              rw [powT_len, len_cl] at h1
              have h2 : j * T.length ≤ 9 * 56 := Nat.mul_le_mul (by omega) hTl
              omega
            repeat walk_at "W"
            have hst := hD.step hm
            refine Wp.itd (fun e1 => ?_) (fun e1 => ?_)
            · have hz : pz rs (cl T) (9 - m) := mkS_inj (e1.trans (show ("" : Str) = mkS [] from rfl))
              rw [if_pos hz] at hst
              repeat walk_at "W"
              exact ⟨_, _, rfl, s10.trans s11, hst⟩
            · have hz : ¬ pz rs (cl T) (9 - m) := fun h => e1 (by
                have h' : overP rs (powT (cl T) (9 - m)) = [] := h
                rw [h']; rfl)
              rw [if_neg hz] at hst
              repeat walk_at "W"
              exact ⟨_, _, rfl, s10.trans s11, hst⟩
          · rintro σ1 G2 ⟨y13, o, rfl, s10, hD⟩
            have := DueI.done hD
            subst this
            exact hn _ _ ⟨_, rfl, s10⟩
        rintro σ' H9 ⟨y13, rfl, s10⟩
        have s910 := s9.trans s10
        obtain ⟨A, W, hu⟩ := uw_all (bS (cl S) As) (eS (cl S) As) (prS sh (cl S) As) _ (overP rs (cl T)) (Nat.le_refl _)
        refine Wp.cutQ (fun σ' H' => ∃ t, σ' = [some (.ref a0), some (.ref a), some (.str S), some (.ref R), some (.ref D), some (.ref p), some (.ref U), some (.ref L), some (.int (i : Nat)), some (.ref d), some (.str T), some (.str y), some (dueV (dueN rs (cl T))), y13, some (.ref t), x15, x16, x17, x18] ∧ Same G' H' ∧ dueN rs (cl T) = none ∧ H' t = some (.tup [.str (mkS (rootT rs (invS sh (cl S) As) A W)), .int (times W : Nat)])) (fun nx hn => ?_) ?_
        · repeat walk_at "W"
          refine ⟨p, S, rs, _, _, _, _, T, A, W, rfl, hBg.same s910, hle8, hSp, hG.bk, g, hTo, by omega, hu, fun n hdn dd H' h1 s11 h3 => ⟨true, TH.te, fun _ a1 ha1 => ?_, fun q => Bool.noConfusion q⟩, fun hdn H' t s11 ht => ?_⟩
          · rw [hdn]
            have hn9 := due_le hdn
            repeat walk_at "W"
            refine ⟨_, rfl, rfl, rfl, dd, _, _, rfl, h3, rfl, ?_⟩
            repeat walk_at "W"
            refine reprN (by omega) ?_
            repeat walk_at "W"
            refine reprN (by omega) ?_
            repeat walk_at "W"
            refine ⟨.ref CR, .ref CR, true, rfl, rfl, fun u r => r, isR, ⟨dd, _, rfl, h3⟩, ?_⟩
            repeat walk_at "W"
            exact ⟨_, _, _, _, _, _, _, _, _, _, _, rfl, s5.trans (s910.trans s11)⟩
          · rw [hdn]
            repeat walk_at "W"
            exact hn _ _ ⟨t, by rw [hdn]; rfl, s910.trans s11, hdn, ht⟩
        rintro σ' H10 ⟨t, rfl, s11, hdn, ht⟩
        have hF := hG.bk.rootF g (by rw [len_cl]; exact hle8) hTo hu hdn
        have hform := g.uw_form hu (hG.bk.over_mem g hTo).1
        generalize hr0 : rootT rs (invS sh (cl S) As) A W = r0 at ht
        refine Wp.cutQ (fun σ' H' => σ' = [some (.ref a0), some (.ref a), some (.str S), some (.ref R), some (.ref D), some (.ref p), some (.ref U), some (.ref L), some (.int (i : Nat)), some (.ref d), some (.str T), some (.str y), some (dueV (dueN rs (cl T))), y13, some (.ref t), x15, x16, x17, x18] ∧ H10 = H') (fun nx hn => ?_) ?_
        · have hix0 : atI [V.str (mkS r0), V.int (times W : Nat)] 0 = some (.str (mkS r0)) := rfl
          repeat walk_at "W"
          refine Wp.isi1 (d := .tuple [.str (mkS r0), .int (times W : Nat)]) (.tup (SqT.of ht) (.cons (.str _) (.cons (.int _) .nil))) rfl ?_
          repeat walk_at "W"
          refine Wp.ixt (SqT.of ht) hix0 ?_
          repeat walk_at "W"
          refine Wp.isi1 (d := .str (mkS r0)) (.str _) rfl ?_
          repeat walk_at "W"
          exact hn _ _ ⟨rfl, rfl⟩
        rintro σ' H10' ⟨rfl, e6⟩
        subst e6
        have hul := uw_len hu
        have hTE := (hG.bk.over_mem g hTo).2
        rw [len_cl] at hTE
        have hul2 : 2 * A.length + W.length ≤ 57 := by omega
        have htW : times W ≤ 57 := by
          have : times W ≤ W.length := Nat.div_le_self _ _
          omega
        subst hr0
        have hrm := hF.mem
        have hrirr := hF.irr
        have hrl := hF.rl
        have hpow := hF.pow
        have hruw := hF.uw
        have hrdue := hF.due
        have hrlen := hF.len
        have hmax := hF.max
        obtain ⟨ps1, ps2, ps3⟩ := piece_self hF.ne
        have hrr : rootT rs (invS sh (cl S) As) A (piece W) = rootT rs (invS sh (cl S) As) A W := by unfold rootT; rw [ps3]
        unfold rootT at hrr
        have hrr' : overP rs (A ++ piece (piece W) ++ invT (invS sh (cl S) As) A) = rootT rs (invS sh (cl S) As) A W := hrr
        generalize rootT rs (invS sh (cl S) As) A W = r0 at ht hrm hrirr hrl hpow hruw hrdue hrlen hmax hrr'
        have hro : over S (mkS r0) := fun c hc => hrm c (by rw [← cl_mk r0]; exact hc)
        have hIr : Irr rs r0 := by
          rw [← hrirr]
          exact (nf_over hG.bk.good).stop r0
        have hGk : ∀ {G2 : Hp}, Same G' G2 → ∃ bs, G2 R = some (.tup (bs.map V.ref)) ∧ RulesAt G2 bs rs := fun s => (hGg.same s).rok
        refine Wp.cutQ (fun σ' H' => σ' = [some (.ref a0), some (.ref a), some (.str S), some (.ref R), some (.ref D), some (.ref p), some (.ref U), some (.ref L), some (.int (i : Nat)), some (.ref d), some (.str T), some (.str y), some (dueV (dueN rs (cl T))), y13, some (.ref t), x15, x16, x17, x18] ∧ Same G' H' ∧ H' t = some (.tup [.str (mkS r0), .int (times W : Nat)])) (fun nx hn => ?_) ?_
        · refine Wp.ifs ?_
          refine Wp.cutT (fun b H' => b = false ∧ Same H10 H') (fun R' hRR => ?_) ?_
          · repeat walk_at "W"
            refine Wp.ixt (SqT.of ht) rfl ?_
            repeat walk_at "W"
            refine reprN (by omega) ?_
            repeat walk_at "W"
            obtain ⟨bs2, hR2, hRs2⟩ := hGk s11
            refine ⟨S, T, R, bs2, rs, _, _, _, _, A, W, rfl, hR2, hRs2, hG.bk, g, h64, hTo, by omega, hu, hF.ne, fun H11 s12 => ?_⟩
            repeat walk_at "W"
            refine reprN (by omega) ?_
            repeat walk_at "W"
            refine Wp.ixt (SqT.of (s12 _ _ ht)) rfl ?_
            repeat walk_at "W"
            obtain ⟨bs3, hR3, hRs3⟩ := hGk (s11.trans s12)
            refine ⟨R, bs3, rs, mkS r0, rfl, .inr hR3, hRs3, h64, fun H12 b s13 hb => ?_⟩
            have hbt : b = true := hb.mpr (by rw [cl_mk]; exact hIr)
            subst hbt
            repeat walk_at "W"
            exact hRR _ _ ⟨rfl, s12.trans s13⟩
          · rintro b H11 ⟨rfl, s12⟩
            refine Wp.iteD Bool.false_ne_true ?_
            repeat walk_at "W"
            exact hn _ _ ⟨rfl, s11.trans s12, s12 _ _ ht⟩
        rintro σ' H11 ⟨rfl, s12, ht12⟩
        refine Wp.cutQ (fun σ' H' => σ' = [some (.ref a0), some (.ref a), some (.str S), some (.ref R), some (.ref D), some (.ref p), some (.ref U), some (.ref L), some (.int (i : Nat)), some (.ref d), some (.str T), some (.str y), some (dueV (dueN rs (cl T))), y13, some (.ref t), x15, x16, x17, x18] ∧ Same G' H' ∧ H' t = some (.tup [.str (mkS r0), .int (times W : Nat)])) (fun nx hn => ?_) ?_
        · refine Wp.ifs ?_
          refine Wp.cutT (fun b H' => b = false ∧ Same H11 H') (fun R' hRR => ?_) ?_
          · repeat walk_at "W"
            refine Wp.ixt (SqT.of ht12) rfl ?_
            repeat walk_at "W"
            refine Wp.ixt (SqT.of ht12) rfl ?_
            repeat walk_at "W"
            obtain ⟨bs2, hR2, hRs2⟩ := hGk s12
            refine ⟨S, mkS r0, R, bs2, rs, _, _, _, _, times W, rfl, hR2, hRs2, hG.bk, g, h64, hro, by rw [len_mk]; omega, fun j hj => ?_, by omega, fun H12 s13 => ?_⟩
            · rw [cl_mk, len_mk]
              have := hrlen j (by omega)
              omega
            rw [cl_mk, hpow]
            repeat walk_at "W"
            obtain ⟨bs3, hR3, hRs3⟩ := hGk (s12.trans s13)
            refine ⟨R, bs3, rs, T, rfl, .inr hR3, hRs3, h64, hG.bk.good, by omega, fun H13 s14 => ?_⟩
            repeat walk_at "W"
            have ht14 := s14 _ _ (s13 _ _ ht12)
            refine Wp.ixt (SqT.of ht14) rfl ?_
            repeat walk_at "W"
            refine ⟨p, S, rs, _, _, _, _, mkS r0, A, piece W, rfl, hBg.same ((s12.trans s13).trans s14), hle8, hSp, hG.bk, g, hro, by rw [len_mk]; omega, by rw [cl_mk]; exact hruw, (fun n hdn' => by rw [cl_mk, hrdue] at hdn'; cases hdn'), fun _ H14 t2 s15 ht2 => ?_⟩
            rw [hrr', ps2] at ht2
            repeat walk_at "W"
            refine Wp.ixt (SqT.of (s15 _ _ ht14)) rfl ?_
            repeat walk_at "W"
            intro t3 ht3
            have u3 := Wp.same_upd (o := .tup [.str (mkS r0), .int 1]) ht3
            have hst := sg_str hG.good hro
            repeat walk_at "W"
            refine neSame (d := .tuple [.str (mkS r0), .int 1]) (.tup (SqT.of (u3 _ _ ht2)) (.cons (.str _) (.cons (.int _) .nil))) (.tup (SqT.of upd_same) (.cons (.str _) (.cons (.int _) .nil))) (shaped_tup fun d hd => ?_) (by simp [PyData.eqv, PyData.eqvAll]) ?_
            · simp only [List.mem_cons, List.not_mem_nil, or_false] at hd
              rcases hd with rfl | rfl
              · refine ⟨?_, by simp [PyData.depth]⟩
                unfold SeqAt.shaped
                simp [PyData.canLay0, PyData.depth, hst]
              · exact ⟨rfl, by simp [PyData.depth]⟩
            refine ⟨_, rfl, ?_⟩
            exact hRR _ _ ⟨rfl, ((s13.trans s14).trans s15).trans u3⟩
          · rintro b H12 ⟨rfl, s13⟩
            refine Wp.iteD Bool.false_ne_true ?_
            repeat walk_at "W"
            exact hn _ _ ⟨rfl, s12.trans s13, s13 _ _ ht12⟩
        rintro σ' H12 ⟨rfl, s13, ht13⟩
        repeat walk_at "W"
        obtain ⟨bs2, hR2, hRs2⟩ := hGk s13
        refine ⟨R, bs2, rs, T, rfl, .inr hR2, hRs2, h64, hG.bk.good, by omega, fun H13 s14 => ?_⟩
        repeat walk_at "W"
        have s14' := s13.trans s14
        have ht14 := s14 _ _ ht13
        have hup := @endsUp_len8 rs (cl S) (by rw [len_cl]; exact hle8) nE hnE
        refine ⟨⟨_, SqL.of (s14' _ _ hLg)⟩, Wp.forIt (walk_list (xs := tx (endsUp rs (cl S) nE))) (fun j σ1 G2 => ∃ y13 x17 x18, σ1 = [some (.ref a0), some (.ref a), some (.str S), some (.ref R), some (.ref D), some (.ref p), some (.ref U), some (.ref L), some (.int (i : Nat)), some (.ref d), some (.str T), some (.str y), some (dueV (dueN rs (cl T))), y13, some (.ref t), x15, some (.str (mkS (overP rs (cl T)))), x17, x18] ∧ Same H13 G2) ⟨_, _, _, rfl, Same.refl _⟩ (fun j σ1 G2 _ ⟨_, _, _, _, s⟩ => SqL.of (s _ _ (s14' _ _ hLg))) ?_ ?_⟩
        · rintro j y2 σ1 G2 G3 hj ⟨y13, x17, x18, rfl, s15⟩ ⟨rfl, hx⟩
          rw [List.getElem?_map] at hx
          obtain ⟨u, hu2, rfl⟩ := Option.map_eq_some_iff.mp hx
          obtain ⟨um, ul, ui⟩ := hG.bk.up_ok (List.mem_of_getElem? hu2)
          have ht15 := s15 _ _ ht14
          have hun : (overP rs (powT u 0)) = [] := hG.bk.nil
          repeat walk_at "W"
          refine Wp.ixt (SqT.of ht15) rfl ?_
          repeat walk_at "W"
          refine ⟨1, _, rfl, ⟨by decide, by decide, by omega, by omega⟩, ?_⟩
          rw [show (((times W : Nat) : Int) + 4 - 1).toNat = times W + 3 by omega]
          refine Wp.forIt walk_range (fun m σ1 G4 => ∃ y13, σ1 = [some (.ref a0), some (.ref a), some (.str S), some (.ref R), some (.ref D), some (.ref p), some (.ref U), some (.ref L), some (.int (i : Nat)), some (.ref d), some (.str T), some (.str y), some (dueV (dueN rs (cl T))), y13, some (.ref t), x15, some (.str (mkS (overP rs (cl T)))), some (.str (mkS u)), some (.str (mkS (overP rs (powT u m))))] ∧ Same G3 G4) ⟨_, by rw [hun]; rfl, Same.refl _⟩ (fun _ _ _ _ _ => trivial) ?_ ?_
          · rintro m y3 σ1 G4 G5 hm ⟨y13, rfl, s16⟩ ⟨rfl, hy3⟩
            obtain rfl : y3 = .int ((m + 1 : Nat) : Int) := by rw [hy3]; exact congrArg V.int (by omega)
            have hwl := (hG.bk.over_mem g (u := powT u m) fun c hc => um c (powT_mem hc)).2
            rw [powT_len] at hwl
            have hml : m * u.length ≤ 60 * 3 := Nat.mul_le_mul (by omega) (by omega)
            have ecl : cl (mkS (overP rs (powT u m)) ++ mkS u) = overP rs (powT u m) ++ u := by rw [show cl (mkS (overP rs (powT u m)) ++ mkS u) = cl (mkS (overP rs (powT u m))) ++ cl (mkS u) from TL.tl_append _ _, cl_mk, cl_mk]
            obtain ⟨bs3, hR3, hRs3⟩ := hGk ((s14'.trans s15).trans s16)
            refine Wp.gname ?_
            refine Wp.cutQ (fun σ' H' => σ' = [some (.ref a0), some (.ref a), some (.str S), some (.ref R), some (.ref D), some (.ref p), some (.ref U), some (.ref L), some (.int (i : Nat)), some (.ref d), some (.str T), some (.str y), some (dueV (dueN rs (cl T))), some (.int ((m + 1 : Nat) : Int)), some (.ref t), x15, some (.str (mkS (overP rs (cl T)))), some (.str (mkS u)), some (.str (mkS (overP rs (powT u (m + 1)))))] ∧ Same G5 H') (fun nx hn' => ?_) ?_
            · repeat walk_at "W"
              refine Wp.addS (by rw [len_mk, len_mk]; omega) ?_
              repeat walk_at "W"
              refine ⟨R, bs3, rs, _, rfl, .inr hR3, hRs3, h64, hG.bk.good, by rw [← len_cl, ecl, List.length_append]; omega, fun G6 s17 => ?_⟩
              rw [ecl, show overP rs (overP rs (powT u m) ++ u) = overP rs (powT u (m + 1)) from hG.bk.app g (hG.bk.nn _) rfl]
              repeat walk_at "W"
              exact hn' _ _ ⟨rfl, s17⟩
            rintro σ' G6 ⟨rfl, s17⟩
            have ht17 := s17 _ _ (s16 _ _ ht15)
            refine Wp.ifs ?_
            refine Wp.cutT (fun b H' => b = false ∧ H' = G6) (fun R' hRR => ?_) ?_
            · repeat walk_at "W"
              refine Wp.itd (fun e1 => ?_) (fun e1 => ?_)
              · have ep : overP rs (powT u (m + 1)) = overP rs (cl T) := mkS_inj e1
                obtain ⟨q1, q2⟩ := hmax u (m + 1) um (by omega) ep
                repeat walk_at "W"
                refine Wp.ixt (SqT.of ht17) rfl ?_
                repeat walk_at "W"
                refine Wp.itd (fun e2 => ?_) (fun e2 => ?_)
                · exfalso; omega
                repeat walk_at "W"
                refine Wp.ixt (SqT.of ht17) rfl ?_
                repeat walk_at "W"
                refine Wp.itd (fun e3 => ?_) (fun e3 => ?_)
                · have hur : u = r0 := by rw [← q2 (by omega), ui]
                  repeat walk_at "W"
                  refine Wp.ixt (SqT.of ht17) rfl ?_
                  repeat walk_at "W"
                  exact hRR _ _ ⟨by simp [hur], rfl⟩
                · exact hRR _ _ ⟨rfl, rfl⟩
              · exact hRR _ _ ⟨rfl, rfl⟩
            · rintro b G7 ⟨rfl, rfl⟩
              refine Wp.iteD Bool.false_ne_true ?_
              repeat walk_at "W"
              exact ⟨_, rfl, s16.trans s17⟩
          · rintro σ1 G4 ⟨y13, rfl, s16⟩
            exact ⟨_, _, _, rfl, s15.trans s16⟩
        · rintro σ1 G2 ⟨y13, x17, x18, rfl, s15⟩
          exact ⟨_, _, _, _, _, _, _, _, _, _, _, rfl, s5.trans (s14'.trans s15)⟩
      · rintro σ1 G ⟨x8, x9, x10, x11, x12, x13, x14, x15, x16, x17, x18, rfl, s5⟩
        exact hn _ _ ⟨_, _, _, _, _, _, _, _, _, _, _, rfl, s5⟩
    rintro σ' H5 ⟨x8, x9, x10, x11, x12, x13, x14, x15, x16, x17, x18, rfl, s5⟩
    repeat walk_at "W"
    exact q _
end
end K57
set_option Elab.async false
set_option linter.all false
set_option maxRecDepth 100000
namespace Wp
open PySem PySem.Spec PyProof.Rows L2
theorem kitCls_of {K : PySem.W.Frag} {D C : Addr} {v : Bool} (h2 : PySem.W.isClsIn K C = true) (h3 : PySem.W.typeIn K (.ref C) = some (.type "type")) (s : PySem.W.subIn K (.ref D) (.ref C) = some v) : PySem.W.kitCls K (.ref D) (.ref C) = some v := by
  have h2' : (PySem.W.clsIn K C).isSome = true := h2
  show (if ((PySem.W.clsIn K C).isSome && PySem.W.typeIn K (.ref C) == some (.type "type")) = true then PySem.W.subIn K (.ref D) (.ref C) else none) = some v
  rw [h2', h3, if_pos (by rfl)]
  exact s
theorem kit_of {K : PySem.W.Frag} {D C : Addr} {v : Bool} (h2 : PySem.W.isClsIn K C = true) (h3 : PySem.W.typeIn K (.ref C) = some (.type "type")) (s : PySem.W.subIn K (.ref D) (.ref C) = some v) (self : PySem.W.subIn K (.ref D) (.ref D) = some true) : PySem.W.kitOne K (.ref D) (.ref C) = some v := by
  show (if (Value.ref D == Value.ref C) = true then some true else PySem.W.kitCls K (.ref D) (.ref C)) = some v
  by_cases h : (Value.ref D == Value.ref C) = true
  · rw [if_pos h]
    have e : D = C := by
      have z : Value.ref D = Value.ref C := eq_of_beq h
      cases z; rfl
    subst e
    exact self.symm.trans s
  · rw [if_neg h]; exact kitCls_of h2 h3 s
theorem exm_of {K : PySem.W.Frag} {S : Addr} (h1 : PySem.W.subIn K (.ref S) (.type "BaseException") = some true) (h2 : PySem.W.isClsIn K S = true) (h3 : PySem.W.typeIn K (.ref S) = some (.type "type")) (h4 : PySem.W.subIn K (.ref S) (.ref S) = some true) : PySem.W.exmOne K (.ref S) (.ref S) = some true := by
  show (if (PySem.W.subIn K (.ref S) (.type "BaseException") == some true) = true then PySem.W.kitCls K (.ref S) (.ref S) else none) = some true
  rw [h1, if_pos (by rfl)]
  exact kitCls_of h2 h3 h4
end Wp
namespace K57
open PySem PySem.Spec PyProof.Rows L2 Bk
section
set_option maxHeartbeats 0 in
theorem all_mk {l : PySem.W.OpenLaw} {w : World} {K : PySem.W.Frag} {h : Heap} {mg : Str → Option Value} {fa : Addr} (X : K.In h) (G : h.Ns mainGlobals mg) (hfa : mg "law" = some (.ref fa))
    {f1 : Addr} {od1 an1 : Option Addr} {sl1 : Array (Option Value)} {oc1 kV1 dc1 pm1 cd1 ct1 : Value}
    (a1 : PySem.W.nsIn K mainGlobals "is_row" = some (some (.ref f1)))
    (l1 : K.lookup f1 = some ⟨oc1, od1, .func (PySem.W.fnOf "is_row" "is_row" (defArgs s_is_row) (defBody s_is_row) (defScope s_is_row) .none kV1 dc1 pm1 an1 cd1 ct1), sl1⟩)
    (c1 : PySem.W.codeIn K cd1 "is_row" = true)
    (k1 : PySem.W.keepIn K (.ref f1) = true)
    {f2 : Addr} {od2 an2 : Option Addr} {sl2 : Array (Option Value)} {oc2 kV2 dc2 pm2 cd2 ct2 : Value}
    (a2 : PySem.W.nsIn K mainGlobals "ascending_texts" = some (some (.ref f2)))
    (l2 : K.lookup f2 = some ⟨oc2, od2, .func (PySem.W.fnOf "ascending_texts" "ascending_texts" (defArgs s_ascending_texts) (defBody s_ascending_texts) (defScope s_ascending_texts) .none kV2 dc2 pm2 an2 cd2 ct2), sl2⟩)
    (c2 : PySem.W.codeIn K cd2 "ascending_texts" = true)
    (k2 : PySem.W.keepIn K (.ref f2) = true)
    {f3 : Addr} {od3 an3 : Option Addr} {sl3 : Array (Option Value)} {oc3 kV3 dc3 pm3 cd3 ct3 : Value}
    (a3 : PySem.W.nsIn K mainGlobals "is_text" = some (some (.ref f3)))
    (l3 : K.lookup f3 = some ⟨oc3, od3, .func (PySem.W.fnOf "is_text" "is_text" (defArgs s_is_text) (defBody s_is_text) (defScope s_is_text) .none kV3 dc3 pm3 an3 cd3 ct3), sl3⟩)
    (c3 : PySem.W.codeIn K cd3 "is_text" = true)
    (k3 : PySem.W.keepIn K (.ref f3) = true)
    {f4 : Addr} {od4 an4 : Option Addr} {sl4 : Array (Option Value)} {oc4 kV4 dc4 pm4 cd4 ct4 : Value}
    (a4 : PySem.W.nsIn K mainGlobals "checked_signs" = some (some (.ref f4)))
    (l4 : K.lookup f4 = some ⟨oc4, od4, .func (PySem.W.fnOf "checked_signs" "checked_signs" (defArgs s_checked_signs) (defBody s_checked_signs) (defScope s_checked_signs) .none kV4 dc4 pm4 an4 cd4 ct4), sl4⟩)
    (c4 : PySem.W.codeIn K cd4 "checked_signs" = true)
    (k4 : PySem.W.keepIn K (.ref f4) = true)
    {f5 : Addr} {od5 an5 : Option Addr} {sl5 : Array (Option Value)} {oc5 kV5 dc5 pm5 cd5 ct5 : Value}
    (a5 : PySem.W.nsIn K mainGlobals "checked_text" = some (some (.ref f5)))
    (l5 : K.lookup f5 = some ⟨oc5, od5, .func (PySem.W.fnOf "checked_text" "checked_text" (defArgs s_checked_text) (defBody s_checked_text) (defScope s_checked_text) .none kV5 dc5 pm5 an5 cd5 ct5), sl5⟩)
    (c5 : PySem.W.codeIn K cd5 "checked_text" = true)
    (k5 : PySem.W.keepIn K (.ref f5) = true)
    {f6 : Addr} {od6 an6 : Option Addr} {sl6 : Array (Option Value)} {oc6 kV6 dc6 pm6 cd6 ct6 : Value}
    (a6 : PySem.W.nsIn K mainGlobals "is_rule" = some (some (.ref f6)))
    (l6 : K.lookup f6 = some ⟨oc6, od6, .func (PySem.W.fnOf "is_rule" "is_rule" (defArgs s_is_rule) (defBody s_is_rule) (defScope s_is_rule) .none kV6 dc6 pm6 an6 cd6 ct6), sl6⟩)
    (c6 : PySem.W.codeIn K cd6 "is_rule" = true)
    (k6 : PySem.W.keepIn K (.ref f6) = true)
    {f7 : Addr} {od7 an7 : Option Addr} {sl7 : Array (Option Value)} {oc7 kV7 dc7 pm7 cd7 ct7 : Value}
    (a7 : PySem.W.nsIn K mainGlobals "rules_of" = some (some (.ref f7)))
    (l7 : K.lookup f7 = some ⟨oc7, od7, .func (PySem.W.fnOf "rules_of" "rules_of" (defArgs s_rules_of) (defBody s_rules_of) (defScope s_rules_of) .none kV7 dc7 pm7 an7 cd7 ct7), sl7⟩)
    (c7 : PySem.W.codeIn K cd7 "rules_of" = true)
    (k7 : PySem.W.keepIn K (.ref f7) = true)
    {f8 : Addr} {od8 an8 : Option Addr} {sl8 : Array (Option Value)} {oc8 kV8 dc8 pm8 cd8 ct8 : Value}
    (a8 : PySem.W.nsIn K mainGlobals "first_rights" = some (some (.ref f8)))
    (l8 : K.lookup f8 = some ⟨oc8, od8, .func (PySem.W.fnOf "first_rights" "first_rights" (defArgs s_first_rights) (defBody s_first_rights) (defScope s_first_rights) .none kV8 dc8 pm8 an8 cd8 ct8), sl8⟩)
    (c8 : PySem.W.codeIn K cd8 "first_rights" = true)
    (k8 : PySem.W.keepIn K (.ref f8) = true)
    {f9 : Addr} {od9 an9 : Option Addr} {sl9 : Array (Option Value)} {oc9 kV9 dc9 pm9 cd9 ct9 : Value}
    (a9 : PySem.W.nsIn K mainGlobals "first_fit" = some (some (.ref f9)))
    (l9 : K.lookup f9 = some ⟨oc9, od9, .func (PySem.W.fnOf "first_fit" "first_fit" (defArgs s_first_fit) (defBody s_first_fit) (defScope s_first_fit) .none kV9 dc9 pm9 an9 cd9 ct9), sl9⟩)
    (c9 : PySem.W.codeIn K cd9 "first_fit" = true)
    (k9 : PySem.W.keepIn K (.ref f9) = true)
    {f10 : Addr} {od10 an10 : Option Addr} {sl10 : Array (Option Value)} {oc10 kV10 dc10 pm10 cd10 ct10 : Value}
    (a10 : PySem.W.nsIn K mainGlobals "left_over" = some (some (.ref f10)))
    (l10 : K.lookup f10 = some ⟨oc10, od10, .func (PySem.W.fnOf "left_over" "left_over" (defArgs s_left_over) (defBody s_left_over) (defScope s_left_over) .none kV10 dc10 pm10 an10 cd10 ct10), sl10⟩)
    (c10 : PySem.W.codeIn K cd10 "left_over" = true)
    (k10 : PySem.W.keepIn K (.ref f10) = true)
    {f11 : Addr} {od11 an11 : Option Addr} {sl11 : Array (Option Value)} {oc11 kV11 dc11 pm11 cd11 ct11 : Value}
    (a11 : PySem.W.nsIn K mainGlobals "left_of_all" = some (some (.ref f11)))
    (l11 : K.lookup f11 = some ⟨oc11, od11, .func (PySem.W.fnOf "left_of_all" "left_of_all" (defArgs s_left_of_all) (defBody s_left_of_all) (defScope s_left_of_all) .none kV11 dc11 pm11 an11 cd11 ct11), sl11⟩)
    (c11 : PySem.W.codeIn K cd11 "left_of_all" = true)
    (k11 : PySem.W.keepIn K (.ref f11) = true)
    {f12 : Addr} {od12 an12 : Option Addr} {sl12 : Array (Option Value)} {oc12 kV12 dc12 pm12 cd12 ct12 : Value}
    (a12 : PySem.W.nsIn K mainGlobals "used" = some (some (.ref f12)))
    (l12 : K.lookup f12 = some ⟨oc12, od12, .func (PySem.W.fnOf "used" "used" (defArgs s_used) (defBody s_used) (defScope s_used) .none kV12 dc12 pm12 an12 cd12 ct12), sl12⟩)
    (c12 : PySem.W.codeIn K cd12 "used" = true)
    (k12 : PySem.W.keepIn K (.ref f12) = true)
    {f13 : Addr} {od13 an13 : Option Addr} {sl13 : Array (Option Value)} {oc13 kV13 dc13 pm13 cd13 ct13 : Value}
    (a13 : PySem.W.nsIn K mainGlobals "overlap_text" = some (some (.ref f13)))
    (l13 : K.lookup f13 = some ⟨oc13, od13, .func (PySem.W.fnOf "overlap_text" "overlap_text" (defArgs s_overlap_text) (defBody s_overlap_text) (defScope s_overlap_text) .none kV13 dc13 pm13 an13 cd13 ct13), sl13⟩)
    (c13 : PySem.W.codeIn K cd13 "overlap_text" = true)
    (k13 : PySem.W.keepIn K (.ref f13) = true)
    {f14 : Addr} {od14 an14 : Option Addr} {sl14 : Array (Option Value)} {oc14 kV14 dc14 pm14 cd14 ct14 : Value}
    (a14 : PySem.W.nsIn K mainGlobals "overlaps_of" = some (some (.ref f14)))
    (l14 : K.lookup f14 = some ⟨oc14, od14, .func (PySem.W.fnOf "overlaps_of" "overlaps_of" (defArgs s_overlaps_of) (defBody s_overlaps_of) (defScope s_overlaps_of) .none kV14 dc14 pm14 an14 cd14 ct14), sl14⟩)
    (c14 : PySem.W.codeIn K cd14 "overlaps_of" = true)
    (k14 : PySem.W.keepIn K (.ref f14) = true)
    {f15 : Addr} {od15 an15 : Option Addr} {sl15 : Array (Option Value)} {oc15 kV15 dc15 pm15 cd15 ct15 : Value}
    (a15 : PySem.W.nsIn K mainGlobals "quarrel_of" = some (some (.ref f15)))
    (l15 : K.lookup f15 = some ⟨oc15, od15, .func (PySem.W.fnOf "quarrel_of" "quarrel_of" (defArgs s_quarrel_of) (defBody s_quarrel_of) (defScope s_quarrel_of) .none kV15 dc15 pm15 an15 cd15 ct15), sl15⟩)
    (c15 : PySem.W.codeIn K cd15 "quarrel_of" = true)
    (k15 : PySem.W.keepIn K (.ref f15) = true)
    {f16 : Addr} {od16 an16 : Option Addr} {sl16 : Array (Option Value)} {oc16 kV16 dc16 pm16 cd16 ct16 : Value}
    (a16 : PySem.W.nsIn K mainGlobals "checked_book" = some (some (.ref f16)))
    (l16 : K.lookup f16 = some ⟨oc16, od16, .func (PySem.W.fnOf "checked_book" "checked_book" (defArgs s_checked_book) (defBody s_checked_book) (defScope s_checked_book) .none kV16 dc16 pm16 an16 cd16 ct16), sl16⟩)
    (c16 : PySem.W.codeIn K cd16 "checked_book" = true)
    (k16 : PySem.W.keepIn K (.ref f16) = true)
    {f17 : Addr} {od17 an17 : Option Addr} {sl17 : Array (Option Value)} {oc17 kV17 dc17 pm17 cd17 ct17 : Value}
    (a17 : PySem.W.nsIn K mainGlobals "over" = some (some (.ref f17)))
    (l17 : K.lookup f17 = some ⟨oc17, od17, .func (PySem.W.fnOf "over" "over" (defArgs s_over) (defBody s_over) (defScope s_over) .none kV17 dc17 pm17 an17 cd17 ct17), sl17⟩)
    (c17 : PySem.W.codeIn K cd17 "over" = true)
    (k17 : PySem.W.keepIn K (.ref f17) = true)
    {f18 : Addr} {od18 an18 : Option Addr} {sl18 : Array (Option Value)} {oc18 kV18 dc18 pm18 cd18 ct18 : Value}
    (a18 : PySem.W.nsIn K mainGlobals "has_proper_piece" = some (some (.ref f18)))
    (l18 : K.lookup f18 = some ⟨oc18, od18, .func (PySem.W.fnOf "has_proper_piece" "has_proper_piece" (defArgs s_has_proper_piece) (defBody s_has_proper_piece) (defScope s_has_proper_piece) .none kV18 dc18 pm18 an18 cd18 ct18), sl18⟩)
    (c18 : PySem.W.codeIn K cd18 "has_proper_piece" = true)
    (k18 : PySem.W.keepIn K (.ref f18) = true)
    {f19 : Addr} {od19 an19 : Option Addr} {sl19 : Array (Option Value)} {oc19 kV19 dc19 pm19 cd19 ct19 : Value}
    (a19 : PySem.W.nsIn K mainGlobals "least_rules" = some (some (.ref f19)))
    (l19 : K.lookup f19 = some ⟨oc19, od19, .func (PySem.W.fnOf "least_rules" "least_rules" (defArgs s_least_rules) (defBody s_least_rules) (defScope s_least_rules) .none kV19 dc19 pm19 an19 cd19 ct19), sl19⟩)
    (c19 : PySem.W.codeIn K cd19 "least_rules" = true)
    (k19 : PySem.W.keepIn K (.ref f19) = true)
    {f20 : Addr} {od20 an20 : Option Addr} {sl20 : Array (Option Value)} {oc20 kV20 dc20 pm20 cd20 ct20 : Value}
    (a20 : PySem.W.nsIn K mainGlobals "undoing_signs" = some (some (.ref f20)))
    (l20 : K.lookup f20 = some ⟨oc20, od20, .func (PySem.W.fnOf "undoing_signs" "undoing_signs" (defArgs s_undoing_signs) (defBody s_undoing_signs) (defScope s_undoing_signs) .none kV20 dc20 pm20 an20 cd20 ct20), sl20⟩)
    (c20 : PySem.W.codeIn K cd20 "undoing_signs" = true)
    (k20 : PySem.W.keepIn K (.ref f20) = true)
    {f21 : Addr} {od21 an21 : Option Addr} {sl21 : Array (Option Value)} {oc21 kV21 dc21 pm21 cd21 ct21 : Value}
    (a21 : PySem.W.nsIn K mainGlobals "first_places" = some (some (.ref f21)))
    (l21 : K.lookup f21 = some ⟨oc21, od21, .func (PySem.W.fnOf "first_places" "first_places" (defArgs s_first_places) (defBody s_first_places) (defScope s_first_places) .none kV21 dc21 pm21 an21 cd21 ct21), sl21⟩)
    (c21 : PySem.W.codeIn K cd21 "first_places" = true)
    (k21 : PySem.W.keepIn K (.ref f21) = true)
    {f22 : Addr} {od22 an22 : Option Addr} {sl22 : Array (Option Value)} {oc22 kV22 dc22 pm22 cd22 ct22 : Value}
    (a22 : PySem.W.nsIn K mainGlobals "least_places" = some (some (.ref f22)))
    (l22 : K.lookup f22 = some ⟨oc22, od22, .func (PySem.W.fnOf "least_places" "least_places" (defArgs s_least_places) (defBody s_least_places) (defScope s_least_places) .none kV22 dc22 pm22 an22 cd22 ct22), sl22⟩)
    (c22 : PySem.W.codeIn K cd22 "least_places" = true)
    (k22 : PySem.W.keepIn K (.ref f22) = true)
    {f23 : Addr} {od23 an23 : Option Addr} {sl23 : Array (Option Value)} {oc23 kV23 dc23 pm23 cd23 ct23 : Value}
    (a23 : PySem.W.nsIn K mainGlobals "checked_arrows" = some (some (.ref f23)))
    (l23 : K.lookup f23 = some ⟨oc23, od23, .func (PySem.W.fnOf "checked_arrows" "checked_arrows" (defArgs s_checked_arrows) (defBody s_checked_arrows) (defScope s_checked_arrows) .none kV23 dc23 pm23 an23 cd23 ct23), sl23⟩)
    (c23 : PySem.W.codeIn K cd23 "checked_arrows" = true)
    (k23 : PySem.W.keepIn K (.ref f23) = true)
    {f24 : Addr} {od24 an24 : Option Addr} {sl24 : Array (Option Value)} {oc24 kV24 dc24 pm24 cd24 ct24 : Value}
    (a24 : PySem.W.nsIn K mainGlobals "unwrapped" = some (some (.ref f24)))
    (l24 : K.lookup f24 = some ⟨oc24, od24, .func (PySem.W.fnOf "unwrapped" "unwrapped" (defArgs s_unwrapped) (defBody s_unwrapped) (defScope s_unwrapped) .none kV24 dc24 pm24 an24 cd24 ct24), sl24⟩)
    (c24 : PySem.W.codeIn K cd24 "unwrapped" = true)
    (k24 : PySem.W.keepIn K (.ref f24) = true)
    {f25 : Addr} {od25 an25 : Option Addr} {sl25 : Array (Option Value)} {oc25 kV25 dc25 pm25 cd25 ct25 : Value}
    (a25 : PySem.W.nsIn K mainGlobals "order_of_inner" = some (some (.ref f25)))
    (l25 : K.lookup f25 = some ⟨oc25, od25, .func (PySem.W.fnOf "order_of_inner" "order_of_inner" (defArgs s_order_of_inner) (defBody s_order_of_inner) (defScope s_order_of_inner) .none kV25 dc25 pm25 an25 cd25 ct25), sl25⟩)
    (c25 : PySem.W.codeIn K cd25 "order_of_inner" = true)
    (k25 : PySem.W.keepIn K (.ref f25) = true)
    {f26 : Addr} {od26 an26 : Option Addr} {sl26 : Array (Option Value)} {oc26 kV26 dc26 pm26 cd26 ct26 : Value}
    (a26 : PySem.W.nsIn K mainGlobals "inner_root" = some (some (.ref f26)))
    (l26 : K.lookup f26 = some ⟨oc26, od26, .func (PySem.W.fnOf "inner_root" "inner_root" (defArgs s_inner_root) (defBody s_inner_root) (defScope s_inner_root) .none kV26 dc26 pm26 an26 cd26 ct26), sl26⟩)
    (c26 : PySem.W.codeIn K cd26 "inner_root" = true)
    (k26 : PySem.W.keepIn K (.ref f26) = true)
    {f27 : Addr} {od27 an27 : Option Addr} {sl27 : Array (Option Value)} {oc27 kV27 dc27 pm27 cd27 ct27 : Value}
    (a27 : PySem.W.nsIn K mainGlobals "root" = some (some (.ref f27)))
    (l27 : K.lookup f27 = some ⟨oc27, od27, .func (PySem.W.fnOf "root" "root" (defArgs s_root) (defBody s_root) (defScope s_root) .none kV27 dc27 pm27 an27 cd27 ct27), sl27⟩)
    (c27 : PySem.W.codeIn K cd27 "root" = true)
    (k27 : PySem.W.keepIn K (.ref f27) = true)
    {f28 : Addr} {od28 an28 : Option Addr} {sl28 : Array (Option Value)} {oc28 kV28 dc28 pm28 cd28 ct28 : Value}
    (a28 : PySem.W.nsIn K mainGlobals "_law_source" = some (some (.ref f28)))
    (l28 : K.lookup f28 = some ⟨oc28, od28, .func (PySem.W.fnOf "_law_source" "_law_source" (defArgs s__law_source) (defBody s__law_source) (defScope s__law_source) .none kV28 dc28 pm28 an28 cd28 ct28), sl28⟩)
    (c28 : PySem.W.codeIn K cd28 "_law_source" = true)
    (k28 : PySem.W.keepIn K (.ref f28) = true)
    {f29 : Addr} {od29 an29 : Option Addr} {sl29 : Array (Option Value)} {oc29 kV29 dc29 pm29 cd29 ct29 : Value}
    (a29 : PySem.W.nsIn K mainGlobals "_law_pick" = some (some (.ref f29)))
    (l29 : K.lookup f29 = some ⟨oc29, od29, .func (PySem.W.fnOf "_law_pick" "_law_pick" (defArgs s__law_pick) (defBody s__law_pick) (defScope s__law_pick) .none kV29 dc29 pm29 an29 cd29 ct29), sl29⟩)
    (c29 : PySem.W.codeIn K cd29 "_law_pick" = true)
    (k29 : PySem.W.keepIn K (.ref f29) = true)
    {f30 : Addr} {od30 an30 : Option Addr} {sl30 : Array (Option Value)} {oc30 kV30 dc30 pm30 cd30 ct30 : Value}
    (a30 : PySem.W.nsIn K mainGlobals "_law_text" = some (some (.ref f30)))
    (l30 : K.lookup f30 = some ⟨oc30, od30, .func (PySem.W.fnOf "_law_text" "_law_text" (defArgs s__law_text) (defBody s__law_text) (defScope s__law_text) .none kV30 dc30 pm30 an30 cd30 ct30), sl30⟩)
    (c30 : PySem.W.codeIn K cd30 "_law_text" = true)
    (k30 : PySem.W.keepIn K (.ref f30) = true)
    {f31 : Addr} {od31 an31 : Option Addr} {sl31 : Array (Option Value)} {oc31 kV31 dc31 pm31 cd31 ct31 : Value}
    (a31 : PySem.W.nsIn K mainGlobals "_law_left" = some (some (.ref f31)))
    (l31 : K.lookup f31 = some ⟨oc31, od31, .func (PySem.W.fnOf "_law_left" "_law_left" (defArgs s__law_left) (defBody s__law_left) (defScope s__law_left) .none kV31 dc31 pm31 an31 cd31 ct31), sl31⟩)
    (c31 : PySem.W.codeIn K cd31 "_law_left" = true)
    (k31 : PySem.W.keepIn K (.ref f31) = true)
    {f32 : Addr} {od32 an32 : Option Addr} {sl32 : Array (Option Value)} {oc32 kV32 dc32 pm32 cd32 ct32 : Value}
    (a32 : PySem.W.nsIn K mainGlobals "_law_is_end" = some (some (.ref f32)))
    (l32 : K.lookup f32 = some ⟨oc32, od32, .func (PySem.W.fnOf "_law_is_end" "_law_is_end" (defArgs s__law_is_end) (defBody s__law_is_end) (defScope s__law_is_end) .none kV32 dc32 pm32 an32 cd32 ct32), sl32⟩)
    (c32 : PySem.W.codeIn K cd32 "_law_is_end" = true)
    (k32 : PySem.W.keepIn K (.ref f32) = true)
    {f33 : Addr} {od33 an33 : Option Addr} {sl33 : Array (Option Value)} {oc33 kV33 dc33 pm33 cd33 ct33 : Value}
    (a33 : PySem.W.nsIn K mainGlobals "_law_ends" = some (some (.ref f33)))
    (l33 : K.lookup f33 = some ⟨oc33, od33, .func (PySem.W.fnOf "_law_ends" "_law_ends" (defArgs s__law_ends) (defBody s__law_ends) (defScope s__law_ends) .none kV33 dc33 pm33 an33 cd33 ct33), sl33⟩)
    (c33 : PySem.W.codeIn K cd33 "_law_ends" = true)
    (k33 : PySem.W.keepIn K (.ref f33) = true)
    {f34 : Addr} {od34 an34 : Option Addr} {sl34 : Array (Option Value)} {oc34 kV34 dc34 pm34 cd34 ct34 : Value}
    (a34 : PySem.W.nsIn K mainGlobals "_law_products" = some (some (.ref f34)))
    (l34 : K.lookup f34 = some ⟨oc34, od34, .func (PySem.W.fnOf "_law_products" "_law_products" (defArgs s__law_products) (defBody s__law_products) (defScope s__law_products) .none kV34 dc34 pm34 an34 cd34 ct34), sl34⟩)
    (c34 : PySem.W.codeIn K cd34 "_law_products" = true)
    (k34 : PySem.W.keepIn K (.ref f34) = true)
    {f35 : Addr} {od35 an35 : Option Addr} {sl35 : Array (Option Value)} {oc35 kV35 dc35 pm35 cd35 ct35 : Value}
    (a35 : PySem.W.nsIn K mainGlobals "_law_arrows" = some (some (.ref f35)))
    (l35 : K.lookup f35 = some ⟨oc35, od35, .func (PySem.W.fnOf "_law_arrows" "_law_arrows" (defArgs s__law_arrows) (defBody s__law_arrows) (defScope s__law_arrows) .none kV35 dc35 pm35 an35 cd35 ct35), sl35⟩)
    (c35 : PySem.W.codeIn K cd35 "_law_arrows" = true)
    (k35 : PySem.W.keepIn K (.ref f35) = true)
    {f36 : Addr} {od36 an36 : Option Addr} {sl36 : Array (Option Value)} {oc36 kV36 dc36 pm36 cd36 ct36 : Value}
    (a36 : PySem.W.nsIn K mainGlobals "_law_group_parts" = some (some (.ref f36)))
    (l36 : K.lookup f36 = some ⟨oc36, od36, .func (PySem.W.fnOf "_law_group_parts" "_law_group_parts" (defArgs s__law_group_parts) (defBody s__law_group_parts) (defScope s__law_group_parts) .none kV36 dc36 pm36 an36 cd36 ct36), sl36⟩)
    (c36 : PySem.W.codeIn K cd36 "_law_group_parts" = true)
    (k36 : PySem.W.keepIn K (.ref f36) = true)
    {f37 : Addr} {od37 an37 : Option Addr} {sl37 : Array (Option Value)} {oc37 kV37 dc37 pm37 cd37 ct37 : Value}
    (a37 : PySem.W.nsIn K mainGlobals "_law_shuffled" = some (some (.ref f37)))
    (l37 : K.lookup f37 = some ⟨oc37, od37, .func (PySem.W.fnOf "_law_shuffled" "_law_shuffled" (defArgs s__law_shuffled) (defBody s__law_shuffled) (defScope s__law_shuffled) .none kV37 dc37 pm37 an37 cd37 ct37), sl37⟩)
    (c37 : PySem.W.codeIn K cd37 "_law_shuffled" = true)
    (k37 : PySem.W.keepIn K (.ref f37) = true)
    {f38 : Addr} {od38 an38 : Option Addr} {sl38 : Array (Option Value)} {oc38 kV38 dc38 pm38 cd38 ct38 : Value}
    (a38 : PySem.W.nsIn K mainGlobals "_law_group" = some (some (.ref f38)))
    (l38 : K.lookup f38 = some ⟨oc38, od38, .func (PySem.W.fnOf "_law_group" "_law_group" (defArgs s__law_group) (defBody s__law_group) (defScope s__law_group) .none kV38 dc38 pm38 an38 cd38 ct38), sl38⟩)
    (c38 : PySem.W.codeIn K cd38 "_law_group" = true)
    (k38 : PySem.W.keepIn K (.ref f38) = true)
    {f39 : Addr} {od39 an39 : Option Addr} {sl39 : Array (Option Value)} {oc39 kV39 dc39 pm39 cd39 ct39 : Value}
    (a39 : PySem.W.nsIn K mainGlobals "_law_undo" = some (some (.ref f39)))
    (l39 : K.lookup f39 = some ⟨oc39, od39, .func (PySem.W.fnOf "_law_undo" "_law_undo" (defArgs s__law_undo) (defBody s__law_undo) (defScope s__law_undo) .none kV39 dc39 pm39 an39 cd39 ct39), sl39⟩)
    (c39 : PySem.W.codeIn K cd39 "_law_undo" = true)
    (k39 : PySem.W.keepIn K (.ref f39) = true)
    {f40 : Addr} {od40 an40 : Option Addr} {sl40 : Array (Option Value)} {oc40 kV40 dc40 pm40 cd40 ct40 : Value}
    (a40 : PySem.W.nsIn K mainGlobals "_law_undone" = some (some (.ref f40)))
    (l40 : K.lookup f40 = some ⟨oc40, od40, .func (PySem.W.fnOf "_law_undone" "_law_undone" (defArgs s__law_undone) (defBody s__law_undone) (defScope s__law_undone) .none kV40 dc40 pm40 an40 cd40 ct40), sl40⟩)
    (c40 : PySem.W.codeIn K cd40 "_law_undone" = true)
    (k40 : PySem.W.keepIn K (.ref f40) = true)
    {f41 : Addr} {od41 an41 : Option Addr} {sl41 : Array (Option Value)} {oc41 kV41 dc41 pm41 cd41 ct41 : Value}
    (a41 : PySem.W.nsIn K mainGlobals "_law_group_text" = some (some (.ref f41)))
    (l41 : K.lookup f41 = some ⟨oc41, od41, .func (PySem.W.fnOf "_law_group_text" "_law_group_text" (defArgs s__law_group_text) (defBody s__law_group_text) (defScope s__law_group_text) .none kV41 dc41 pm41 an41 cd41 ct41), sl41⟩)
    (c41 : PySem.W.codeIn K cd41 "_law_group_text" = true)
    (k41 : PySem.W.keepIn K (.ref f41) = true)
    {f42 : Addr} {od42 an42 : Option Addr} {sl42 : Array (Option Value)} {oc42 kV42 dc42 pm42 cd42 ct42 : Value}
    (a42 : PySem.W.nsIn K mainGlobals "_law_power" = some (some (.ref f42)))
    (l42 : K.lookup f42 = some ⟨oc42, od42, .func (PySem.W.fnOf "_law_power" "_law_power" (defArgs s__law_power) (defBody s__law_power) (defScope s__law_power) .none kV42 dc42 pm42 an42 cd42 ct42), sl42⟩)
    (c42 : PySem.W.codeIn K cd42 "_law_power" = true)
    (k42 : PySem.W.keepIn K (.ref f42) = true)
    {f43 : Addr} {od43 an43 : Option Addr} {sl43 : Array (Option Value)} {oc43 kV43 dc43 pm43 cd43 ct43 : Value}
    (a43 : PySem.W.nsIn K mainGlobals "_law_times" = some (some (.ref f43)))
    (l43 : K.lookup f43 = some ⟨oc43, od43, .func (PySem.W.fnOf "_law_times" "_law_times" (defArgs s__law_times) (defBody s__law_times) (defScope s__law_times) .none kV43 dc43 pm43 an43 cd43 ct43), sl43⟩)
    (c43 : PySem.W.codeIn K cd43 "_law_times" = true)
    (k43 : PySem.W.keepIn K (.ref f43) = true)
    {f44 : Addr} {od44 an44 : Option Addr} {sl44 : Array (Option Value)} {oc44 kV44 dc44 pm44 cd44 ct44 : Value}
    (a44 : PySem.W.nsIn K mainGlobals "law" = some (some (.ref f44)))
    (l44 : K.lookup f44 = some ⟨oc44, od44, .func (PySem.W.fnOf "law" "law" (defArgs s_law) (defBody s_law) (defScope s_law) .none kV44 dc44 pm44 an44 cd44 ct44), sl44⟩)
    (c44 : PySem.W.codeIn K cd44 "law" = true)
    (k44 : PySem.W.keepIn K (.ref f44) = true)
    {CR : Addr}
    (gCR : PySem.W.nsIn K mainGlobals "ShrunkError" = some (some (.ref CR)))
    (tyCR : PySem.W.typeIn K (.ref CR) = some (.type "type"))
    (icCR : PySem.W.isClsIn K CR = true)
    {CH : Addr}
    (gCH : PySem.W.nsIn K mainGlobals "HasOrder" = some (some (.ref CH)))
    (tyCH : PySem.W.typeIn K (.ref CH) = some (.type "type"))
    (icCH : PySem.W.isClsIn K CH = true)
    {CS : Addr}
    (gCS : PySem.W.nsIn K mainGlobals "BadSigns" = some (some (.ref CS)))
    (tyCS : PySem.W.typeIn K (.ref CS) = some (.type "type"))
    (icCS : PySem.W.isClsIn K CS = true)
    {CT : Addr}
    (gCT : PySem.W.nsIn K mainGlobals "BadText" = some (some (.ref CT)))
    (tyCT : PySem.W.typeIn K (.ref CT) = some (.type "type"))
    (icCT : PySem.W.isClsIn K CT = true)
    {CB : Addr}
    (gCB : PySem.W.nsIn K mainGlobals "BadRule" = some (some (.ref CB)))
    (tyCB : PySem.W.typeIn K (.ref CB) = some (.type "type"))
    (icCB : PySem.W.isClsIn K CB = true)
    {C : Addr}
    (gC : PySem.W.nsIn K mainGlobals "Book" = some (some (.ref C)))
    (tyC : PySem.W.typeIn K (.ref C) = some (.type "type"))
    (icC : PySem.W.isClsIn K C = true)
    {AR : Addr}
    (gAR : PySem.W.nsIn K mainGlobals "Arrows" = some (some (.ref AR)))
    (tyAR : PySem.W.typeIn K (.ref AR) = some (.type "type"))
    (icAR : PySem.W.isClsIn K AR = true)
    {fI7 : Addr} {odI7 anI7 : Option Addr} {slI7 : Array (Option Value)} {ocI7 kVI7 dcI7 pmI7 cdI7 ctI7 : Value}
    (aI7 : PySem.W.findIn K (.ref CH) "__init__" = some (some (.ref fI7)))
    (tI7 : PySem.W.typeIn K (.ref fI7) = some (.type "function"))
    (lI7 : K.lookup fI7 = some ⟨ocI7, odI7, .func (PySem.W.fnOf "__init__" "HasOrder.__init__" (defArgs s_HasOrder___init__) (defBody s_HasOrder___init__) (defScope s_HasOrder___init__) .none kVI7 dcI7 pmI7 anI7 cdI7 ctI7), slI7⟩)
    (cI7 : PySem.W.codeIn K cdI7 "HasOrder.__init__" = true)
    (kI7 : PySem.W.keepIn K (.ref fI7) = true)
    {fI1 : Addr} {odI1 anI1 : Option Addr} {slI1 : Array (Option Value)} {ocI1 kVI1 dcI1 pmI1 cdI1 ctI1 : Value}
    (aI1 : PySem.W.findIn K (.ref CS) "__init__" = some (some (.ref fI1)))
    (tI1 : PySem.W.typeIn K (.ref fI1) = some (.type "function"))
    (lI1 : K.lookup fI1 = some ⟨ocI1, odI1, .func (PySem.W.fnOf "__init__" "WrongThing.__init__" (defArgs s_initT) (defBody s_initT) (defScope s_initT) .none kVI1 dcI1 pmI1 anI1 cdI1 ctI1), slI1⟩)
    (cI1 : PySem.W.codeIn K cdI1 "WrongThing.__init__" = true)
    (kI1 : PySem.W.keepIn K (.ref fI1) = true)
    {fI2 : Addr} {odI2 anI2 : Option Addr} {slI2 : Array (Option Value)} {ocI2 kVI2 dcI2 pmI2 cdI2 ctI2 : Value}
    (aI2 : PySem.W.findIn K (.ref CB) "__init__" = some (some (.ref fI2)))
    (tI2 : PySem.W.typeIn K (.ref fI2) = some (.type "function"))
    (lI2 : K.lookup fI2 = some ⟨ocI2, odI2, .func (PySem.W.fnOf "__init__" "WrongItem.__init__" (defArgs s_initI) (defBody s_initI) (defScope s_initI) .none kVI2 dcI2 pmI2 anI2 cdI2 ctI2), slI2⟩)
    (cI2 : PySem.W.codeIn K cdI2 "WrongItem.__init__" = true)
    (kI2 : PySem.W.keepIn K (.ref fI2) = true)
    {fI4 : Addr} {odI4 anI4 : Option Addr} {slI4 : Array (Option Value)} {ocI4 kVI4 dcI4 pmI4 cdI4 ctI4 : Value}
    (aI4 : PySem.W.findIn K (.ref C) "__init__" = some (some (.ref fI4)))
    (tI4 : PySem.W.typeIn K (.ref fI4) = some (.type "function"))
    (lI4 : K.lookup fI4 = some ⟨ocI4, odI4, .func (PySem.W.fnOf "__init__" "Book.__init__" (defArgs s_Book___init__) (defBody s_Book___init__) (defScope s_Book___init__) .none kVI4 dcI4 pmI4 anI4 cdI4 ctI4), slI4⟩)
    (cI4 : PySem.W.codeIn K cdI4 "Book.__init__" = true)
    (kI4 : PySem.W.keepIn K (.ref fI4) = true)
    {fI5 : Addr} {odI5 anI5 : Option Addr} {slI5 : Array (Option Value)} {ocI5 kVI5 dcI5 pmI5 cdI5 ctI5 : Value}
    (aI5 : PySem.W.findIn K (.ref AR) "__init__" = some (some (.ref fI5)))
    (tI5 : PySem.W.typeIn K (.ref fI5) = some (.type "function"))
    (lI5 : K.lookup fI5 = some ⟨ocI5, odI5, .func (PySem.W.fnOf "__init__" "Arrows.__init__" (defArgs s_Arrows___init__) (defBody s_Arrows___init__) (defScope s_Arrows___init__) .none kVI5 dcI5 pmI5 anI5 cdI5 ctI5), slI5⟩)
    (cI5 : PySem.W.codeIn K cdI5 "Arrows.__init__" = true)
    (kI5 : PySem.W.keepIn K (.ref fI5) = true)
    {fQ : Addr} {odQ anQ : Option Addr} {slQ : Array (Option Value)} {ocQ kVQ dcQ pmQ cdQ ctQ : Value}
    {pQ : Addr} {rtQ : List Value}
    (aQ : PySem.W.findIn K (.ref C) "quarrel" = some (some (.ref pQ)))
    (pgQ : PySem.W.specialIn K (.ref pQ) "__get__" = some (some (.builtin "property.__get__")))
    (ptQ : PySem.W.takesIn K (.ref pQ) = some true)
    (prQ : PySem.W.recIn K pQ "property" = some (.ref fQ :: rtQ))
    (lQ : K.lookup fQ = some ⟨ocQ, odQ, .func (PySem.W.fnOf "quarrel" "Book.quarrel" (defArgs s_Book_quarrel) (defBody s_Book_quarrel) (defScope s_Book_quarrel) .none kVQ dcQ pmQ anQ cdQ ctQ), slQ⟩)
    (cQ : PySem.W.codeIn K cdQ "Book.quarrel" = true)
    (kQ : PySem.W.keepIn K (.ref fQ) = true)
    {fIL : Addr} {odIL anIL : Option Addr} {slIL : Array (Option Value)} {ocIL kVIL dcIL pmIL cdIL ctIL : Value}
    (aIL : PySem.W.findIn K (.ref AR) "is_loop" = some (some (.ref fIL)))
    (nIL : PySem.W.isFn K (.ref fIL) = true)
    (lIL : K.lookup fIL = some ⟨ocIL, odIL, .func (PySem.W.fnOf "is_loop" "Arrows.is_loop" (defArgs s_Arrows_is_loop) (defBody s_Arrows_is_loop) (defScope s_Arrows_is_loop) .none kVIL dcIL pmIL anIL cdIL ctIL), slIL⟩)
    (cIL : PySem.W.codeIn K cdIL "Arrows.is_loop" = true)
    (kIL : PySem.W.keepIn K (.ref fIL) = true)
    {fUT : Addr} {odUT anUT : Option Addr} {slUT : Array (Option Value)} {ocUT kVUT dcUT pmUT cdUT ctUT : Value}
    (aUT : PySem.W.findIn K (.ref AR) "undone_text" = some (some (.ref fUT)))
    (nUT : PySem.W.isFn K (.ref fUT) = true)
    (lUT : K.lookup fUT = some ⟨ocUT, odUT, .func (PySem.W.fnOf "undone_text" "Arrows.undone_text" (defArgs s_Arrows_undone_text) (defBody s_Arrows_undone_text) (defScope s_Arrows_undone_text) .none kVUT dcUT pmUT anUT cdUT ctUT), slUT⟩)
    (cUT : PySem.W.codeIn K cdUT "Arrows.undone_text" = true)
    (kUT : PySem.W.keepIn K (.ref fUT) = true)
    {nmCS qCS : Str} {NCS : Addr} {bsCS bmCS : List Value} {snCS : List Str} {subCS : List Value} {abCS : Bool} {colCS : Option Bool} {ddCS : Option Addr} {m0CS m1CS m2CS m3CS m5CS : Option Value}
    (xCS : K.lookup CS = some (excClassObj nmCS qCS CS NCS bsCS bmCS true snCS subCS abCS colCS ddCS m0CS m1CS m2CS m3CS m5CS "ValueError.__new__"))
    (vCS : PySem.HandSPX.refsVE bmCS = true)
    (saCS : PySem.W.findIn K (.ref CS) "__setattr__" = some (some (.builtin "object.__setattr__")))
    (exCS : PySem.W.subIn K (.ref CS) (.type "BaseException") = some true)
    (kCCS : PySem.W.keepIn K (.ref CS) = true)
    (noCS : PySem.W.findIn K (.ref CS) "thing" = some none)
    {nmCT qCT : Str} {NCT : Addr} {bsCT bmCT : List Value} {snCT : List Str} {subCT : List Value} {abCT : Bool} {colCT : Option Bool} {ddCT : Option Addr} {m0CT m1CT m2CT m3CT m5CT : Option Value}
    (xCT : K.lookup CT = some (excClassObj nmCT qCT CT NCT bsCT bmCT true snCT subCT abCT colCT ddCT m0CT m1CT m2CT m3CT m5CT "ValueError.__new__"))
    (vCT : PySem.HandSPX.refsVE bmCT = true)
    (saCT : PySem.W.findIn K (.ref CT) "__setattr__" = some (some (.builtin "object.__setattr__")))
    (exCT : PySem.W.subIn K (.ref CT) (.type "BaseException") = some true)
    (kCCT : PySem.W.keepIn K (.ref CT) = true)
    (noCT : PySem.W.findIn K (.ref CT) "thing" = some none)
    (aaCT : PySem.W.findIn K (.ref CT) "__init__" = some (some (.ref fI1)))
    {nmCH qCH : Str} {NCH : Addr} {bsCH bmCH : List Value} {snCH : List Str} {subCH : List Value} {abCH : Bool} {colCH : Option Bool} {ddCH : Option Addr} {m0CH m1CH m2CH m3CH m5CH : Option Value}
    (xCH : K.lookup CH = some (excClassObj nmCH qCH CH NCH bsCH bmCH true snCH subCH abCH colCH ddCH m0CH m1CH m2CH m3CH m5CH "ValueError.__new__"))
    (vCH : PySem.HandSPX.refsVE bmCH = true)
    (saCH : PySem.W.findIn K (.ref CH) "__setattr__" = some (some (.builtin "object.__setattr__")))
    (exCH : PySem.W.subIn K (.ref CH) (.type "BaseException") = some true)
    (kCCH : PySem.W.keepIn K (.ref CH) = true)
    (noCH : PySem.W.findIn K (.ref CH) "number" = some none)
    (gaCH : PySem.W.findIn K (.ref CH) "__getattribute__" = some (some (.builtin "BaseException.__getattribute__")))
    (ggCH : PySem.W.findIn K (.ref CH) "__getattr__" = some none)
    (hdCH : PySem.W.hasDictIn K CH = true)
    (ssCH : PySem.W.subIn K (.ref CH) (.ref CH) = some true)
    (haCH : PySem.W.findIn K (.ref CH) "__class__" = some (some (.builtin "object.__class__")))
    (hnCH : PySem.W.specialIn K (.builtin "object.__class__") "__get__" = some (some (.builtin "getset_descriptor.__get__")))
    (htCH : PySem.W.takesIn K (.builtin "object.__class__") = some true)
    (hmCH : PySem.W.mroIn K CH (.type "object") = some true)
    {nmCB qCB : Str} {NCB : Addr} {bsCB bmCB : List Value} {snCB : List Str} {subCB : List Value} {abCB : Bool} {colCB : Option Bool} {ddCB : Option Addr} {m0CB m1CB m2CB m3CB m5CB : Option Value}
    (xCB : K.lookup CB = some (excClassObj nmCB qCB CB NCB bsCB bmCB true snCB subCB abCB colCB ddCB m0CB m1CB m2CB m3CB m5CB "ValueError.__new__"))
    (vCB : PySem.HandSPX.refsVE bmCB = true)
    (saCB : PySem.W.findIn K (.ref CB) "__setattr__" = some (some (.builtin "object.__setattr__")))
    (exCB : PySem.W.subIn K (.ref CB) (.type "BaseException") = some true)
    (kCCB : PySem.W.keepIn K (.ref CB) = true)
    (noCB : PySem.W.findIn K (.ref CB) "place" = some none)
    (mkC : PySem.W.makesIn K C = true)
    (kpC : PySem.W.keepIn K (.ref C) = true)
    (pgC : PySem.W.plainGet K C Str.empty = true)
    (hdC : PySem.W.hasDictIn K C = true)
    (poC : PySem.W.plainOver K C = true)
    (saC : PySem.W.findIn K (.ref C) "__setattr__" = some (some (.builtin "object.__setattr__")))
    (nxC0 : PySem.W.findIn K (.ref C) "signs" = some none)
    (nxC1 : PySem.W.findIn K (.ref C) "rules" = some none)
    (nxC2 : PySem.W.findIn K (.ref C) "_rights" = some none)
    (nxC3 : PySem.W.findIn K (.ref C) "_quarrel" = some none)
    (mkAR : PySem.W.makesIn K AR = true)
    (kpAR : PySem.W.keepIn K (.ref AR) = true)
    (pgAR : PySem.W.plainGet K AR Str.empty = true)
    (hdAR : PySem.W.hasDictIn K AR = true)
    (poAR : PySem.W.plainOver K AR = true)
    (saAR : PySem.W.findIn K (.ref AR) "__setattr__" = some (some (.builtin "object.__setattr__")))
    (nxAR0 : PySem.W.findIn K (.ref AR) "book" = some none)
    (nxAR1 : PySem.W.findIn K (.ref AR) "rights" = some none)
    (nxAR2 : PySem.W.findIn K (.ref AR) "undoing" = some none)
    (nxAR3 : PySem.W.findIn K (.ref AR) "begins" = some none)
    (nxAR4 : PySem.W.findIn K (.ref AR) "leads" = some none)
    (nxAR5 : PySem.W.findIn K (.ref AR) "roots" = some none)
    (uCHCR : PySem.W.subIn K (.ref CH) (.ref CR) = some true)
    {tMOST_SIGNS : Tok}
    (nMOST_SIGNS : PySem.W.nsIn K mainGlobals "MOST_SIGNS" = some (some (.int 8 tMOST_SIGNS)))
    {tLONGEST_TEXT : Tok}
    (nLONGEST_TEXT : PySem.W.nsIn K mainGlobals "LONGEST_TEXT" = some (some (.int 200 tLONGEST_TEXT)))
    {tMOST_RULES : Tok}
    (nMOST_RULES : PySem.W.nsIn K mainGlobals "MOST_RULES" = some (some (.int 64 tMOST_RULES)))
    {tLONGEST_LEFT : Tok}
    (nLONGEST_LEFT : PySem.W.nsIn K mainGlobals "LONGEST_LEFT" = some (some (.int 4 tLONGEST_LEFT)))
    {tLONGEST_RIGHT : Tok}
    (nLONGEST_RIGHT : PySem.W.nsIn K mainGlobals "LONGEST_RIGHT" = some (some (.int 1 tLONGEST_RIGHT)))
    (z_int : PySem.W.nsIn K mainGlobals "int" = some none)
    (z_len : PySem.W.nsIn K mainGlobals "len" = some none)
    (z_range : PySem.W.nsIn K mainGlobals "range" = some none)
    (z_abs : PySem.W.nsIn K mainGlobals "abs" = some none)
    (z_max : PySem.W.nsIn K mainGlobals "max" = some none)
    (z_min : PySem.W.nsIn K mainGlobals "min" = some none)
    (z_tuple : PySem.W.nsIn K mainGlobals "tuple" = some none)
    (z_list : PySem.W.nsIn K mainGlobals "list" = some none)
    (z_str : PySem.W.nsIn K mainGlobals "str" = some none)
    (z_bool : PySem.W.nsIn K mainGlobals "bool" = some none)
    (z_sorted : PySem.W.nsIn K mainGlobals "sorted" = some none)
    (z_repr : PySem.W.nsIn K mainGlobals "repr" = some none)
    (z_isinstance : PySem.W.nsIn K mainGlobals "isinstance" = some none)
    (z_enumerate : PySem.W.nsIn K mainGlobals "enumerate" = some none)
    (z_all : PySem.W.nsIn K mainGlobals "all" = some none)
    (z_any : PySem.W.nsIn K mainGlobals "any" = some none) :
    ∃ fd : FuncData, (∀ (s : Shared) (u : Value), BindsTo s fd ⟨[u], []⟩ [("_law_script", u)]) ∧ ∀ base : Heap, K.In base → base.Ns mainGlobals mg → Wp.FnTop l.prog w K mg base CX0 fa fd ["_law_script"] (spLaw K) := by
  have e := hfa.symm.trans (PySem.W.mg_of X G a44)
  cases e
  have F_is_row := fun_mk (st := s_is_row) l1 c1 k1
  have b_is_row := F_is_row.binds (ps := ["thing"]) fun _ _ _ _ _ _ us hl => match us, hl with | [_], _ => rfl
  have D_is_row : Wp.Dh K mg "is_row" f1 _ ["thing"] := ⟨PySem.W.mg_of X G a1, k1, b_is_row⟩
  have F_ascending_texts := fun_mk (st := s_ascending_texts) l2 c2 k2
  have b_ascending_texts := F_ascending_texts.binds (ps := ["texts"]) fun _ _ _ _ _ _ us hl => match us, hl with | [_], _ => rfl
  have D_ascending_texts : Wp.Dh K mg "ascending_texts" f2 _ ["texts"] := ⟨PySem.W.mg_of X G a2, k2, b_ascending_texts⟩
  have F_is_text := fun_mk (st := s_is_text) l3 c3 k3
  have b_is_text := F_is_text.binds (ps := ["signs", "thing", "most"]) fun _ _ _ _ _ _ us hl => match us, hl with | [_, _, _], _ => rfl
  have D_is_text : Wp.Dh K mg "is_text" f3 _ ["signs", "thing", "most"] := ⟨PySem.W.mg_of X G a3, k3, b_is_text⟩
  have F_checked_signs := fun_mk (st := s_checked_signs) l4 c4 k4
  have b_checked_signs := F_checked_signs.binds (ps := ["thing"]) fun _ _ _ _ _ _ us hl => match us, hl with | [_], _ => rfl
  have D_checked_signs : Wp.Dh K mg "checked_signs" f4 _ ["thing"] := ⟨PySem.W.mg_of X G a4, k4, b_checked_signs⟩
  have F_checked_text := fun_mk (st := s_checked_text) l5 c5 k5
  have b_checked_text := F_checked_text.binds (ps := ["signs", "thing"]) fun _ _ _ _ _ _ us hl => match us, hl with | [_, _], _ => rfl
  have D_checked_text : Wp.Dh K mg "checked_text" f5 _ ["signs", "thing"] := ⟨PySem.W.mg_of X G a5, k5, b_checked_text⟩
  have F_is_rule := fun_mk (st := s_is_rule) l6 c6 k6
  have b_is_rule := F_is_rule.binds (ps := ["signs", "thing"]) fun _ _ _ _ _ _ us hl => match us, hl with | [_, _], _ => rfl
  have D_is_rule : Wp.Dh K mg "is_rule" f6 _ ["signs", "thing"] := ⟨PySem.W.mg_of X G a6, k6, b_is_rule⟩
  have F_rules_of := fun_mk (st := s_rules_of) l7 c7 k7
  have b_rules_of := F_rules_of.binds (ps := ["signs", "things"]) fun _ _ _ _ _ _ us hl => match us, hl with | [_, _], _ => rfl
  have D_rules_of : Wp.Dh K mg "rules_of" f7 _ ["signs", "things"] := ⟨PySem.W.mg_of X G a7, k7, b_rules_of⟩
  have F_first_rights := fun_mk (st := s_first_rights) l8 c8 k8
  have b_first_rights := F_first_rights.binds (ps := ["rules"]) fun _ _ _ _ _ _ us hl => match us, hl with | [_], _ => rfl
  have D_first_rights : Wp.Dh K mg "first_rights" f8 _ ["rules"] := ⟨PySem.W.mg_of X G a8, k8, b_first_rights⟩
  have F_first_fit := fun_mk (st := s_first_fit) l9 c9 k9
  have b_first_fit := F_first_fit.binds (ps := ["rights", "tail"]) fun _ _ _ _ _ _ us hl => match us, hl with | [_, _], _ => rfl
  have D_first_fit : Wp.Dh K mg "first_fit" f9 _ ["rights", "tail"] := ⟨PySem.W.mg_of X G a9, k9, b_first_fit⟩
  have F_left_over := fun_mk (st := s_left_over) l10 c10 k10
  have b_left_over := F_left_over.binds (ps := ["rights", "text"]) fun _ _ _ _ _ _ us hl => match us, hl with | [_, _], _ => rfl
  have D_left_over : Wp.Dh K mg "left_over" f10 _ ["rights", "text"] := ⟨PySem.W.mg_of X G a10, k10, b_left_over⟩
  have F_left_of_all := fun_mk (st := s_left_of_all) l11 c11 k11
  have b_left_of_all := F_left_of_all.binds (ps := ["rights", "pieces"]) fun _ _ _ _ _ _ us hl => match us, hl with | [_, _], _ => rfl
  have D_left_of_all : Wp.Dh K mg "left_of_all" f11 _ ["rights", "pieces"] := ⟨PySem.W.mg_of X G a11, k11, b_left_of_all⟩
  have F_used := fun_mk (st := s_used) l12 c12 k12
  have b_used := F_used.binds (ps := ["rules", "text", "place", "number"]) fun _ _ _ _ _ _ us hl => match us, hl with | [_, _, _, _], _ => rfl
  have D_used : Wp.Dh K mg "used" f12 _ ["rules", "text", "place", "number"] := ⟨PySem.W.mg_of X G a12, k12, b_used⟩
  have F_overlap_text := fun_mk (st := s_overlap_text) l13 c13 k13
  have b_overlap_text := F_overlap_text.binds (ps := ["left", "place", "other"]) fun _ _ _ _ _ _ us hl => match us, hl with | [_, _, _], _ => rfl
  have D_overlap_text : Wp.Dh K mg "overlap_text" f13 _ ["left", "place", "other"] := ⟨PySem.W.mg_of X G a13, k13, b_overlap_text⟩
  have F_overlaps_of := fun_mk (st := s_overlaps_of) l14 c14 k14
  have b_overlaps_of := F_overlaps_of.binds (ps := ["rules"]) fun _ _ _ _ _ _ us hl => match us, hl with | [_], _ => rfl
  have D_overlaps_of : Wp.Dh K mg "overlaps_of" f14 _ ["rules"] := ⟨PySem.W.mg_of X G a14, k14, b_overlaps_of⟩
  have F_quarrel_of := fun_mk (st := s_quarrel_of) l15 c15 k15
  have b_quarrel_of := F_quarrel_of.binds (ps := ["rules"]) fun _ _ _ _ _ _ us hl => match us, hl with | [_], _ => rfl
  have D_quarrel_of : Wp.Dh K mg "quarrel_of" f15 _ ["rules"] := ⟨PySem.W.mg_of X G a15, k15, b_quarrel_of⟩
  have F_checked_book := fun_mk (st := s_checked_book) l16 c16 k16
  have b_checked_book := F_checked_book.binds (ps := ["book"]) fun _ _ _ _ _ _ us hl => match us, hl with | [_], _ => rfl
  have D_checked_book : Wp.Dh K mg "checked_book" f16 _ ["book"] := ⟨PySem.W.mg_of X G a16, k16, b_checked_book⟩
  have F_over := fun_mk (st := s_over) l17 c17 k17
  have b_over := F_over.binds (ps := ["book", "text"]) fun _ _ _ _ _ _ us hl => match us, hl with | [_, _], _ => rfl
  have D_over : Wp.Dh K mg "over" f17 _ ["book", "text"] := ⟨PySem.W.mg_of X G a17, k17, b_over⟩
  have F_has_proper_piece := fun_mk (st := s_has_proper_piece) l18 c18 k18
  have b_has_proper_piece := F_has_proper_piece.binds (ps := ["text", "texts"]) fun _ _ _ _ _ _ us hl => match us, hl with | [_, _], _ => rfl
  have D_has_proper_piece : Wp.Dh K mg "has_proper_piece" f18 _ ["text", "texts"] := ⟨PySem.W.mg_of X G a18, k18, b_has_proper_piece⟩
  have F_least_rules := fun_mk (st := s_least_rules) l19 c19 k19
  have b_least_rules := F_least_rules.binds (ps := ["book"]) fun _ _ _ _ _ _ us hl => match us, hl with | [_], _ => rfl
  have D_least_rules : Wp.Dh K mg "least_rules" f19 _ ["book"] := ⟨PySem.W.mg_of X G a19, k19, b_least_rules⟩
  have F_undoing_signs := fun_mk (st := s_undoing_signs) l20 c20 k20
  have b_undoing_signs := F_undoing_signs.binds (ps := ["signs", "rights"]) fun _ _ _ _ _ _ us hl => match us, hl with | [_, _], _ => rfl
  have D_undoing_signs : Wp.Dh K mg "undoing_signs" f20 _ ["signs", "rights"] := ⟨PySem.W.mg_of X G a20, k20, b_undoing_signs⟩
  have F_first_places := fun_mk (st := s_first_places) l21 c21 k21
  have b_first_places := F_first_places.binds (ps := ["signs", "rights", "undoing"]) fun _ _ _ _ _ _ us hl => match us, hl with | [_, _, _], _ => rfl
  have D_first_places : Wp.Dh K mg "first_places" f21 _ ["signs", "rights", "undoing"] := ⟨PySem.W.mg_of X G a21, k21, b_first_places⟩
  have F_least_places := fun_mk (st := s_least_places) l22 c22 k22
  have b_least_places := F_least_places.binds (ps := ["signs", "begins", "leads"]) fun _ _ _ _ _ _ us hl => match us, hl with | [_, _, _], _ => rfl
  have D_least_places : Wp.Dh K mg "least_places" f22 _ ["signs", "begins", "leads"] := ⟨PySem.W.mg_of X G a22, k22, b_least_places⟩
  have F_checked_arrows := fun_mk (st := s_checked_arrows) l23 c23 k23
  have b_checked_arrows := F_checked_arrows.binds (ps := ["book"]) fun _ _ _ _ _ _ us hl => match us, hl with | [_], _ => rfl
  have D_checked_arrows : Wp.Dh K mg "checked_arrows" f23 _ ["book"] := ⟨PySem.W.mg_of X G a23, k23, b_checked_arrows⟩
  have F_unwrapped := fun_mk (st := s_unwrapped) l24 c24 k24
  have b_unwrapped := F_unwrapped.binds (ps := ["arrows", "end"]) fun _ _ _ _ _ _ us hl => match us, hl with | [_, _], _ => rfl
  have D_unwrapped : Wp.Dh K mg "unwrapped" f24 _ ["arrows", "end"] := ⟨PySem.W.mg_of X G a24, k24, b_unwrapped⟩
  have F_order_of_inner := fun_mk (st := s_order_of_inner) l25 c25 k25
  have b_order_of_inner := F_order_of_inner.binds (ps := ["arrows", "inner"]) fun _ _ _ _ _ _ us hl => match us, hl with | [_, _], _ => rfl
  have D_order_of_inner : Wp.Dh K mg "order_of_inner" f25 _ ["arrows", "inner"] := ⟨PySem.W.mg_of X G a25, k25, b_order_of_inner⟩
  have F_inner_root := fun_mk (st := s_inner_root) l26 c26 k26
  have b_inner_root := F_inner_root.binds (ps := ["inner"]) fun _ _ _ _ _ _ us hl => match us, hl with | [_], _ => rfl
  have D_inner_root : Wp.Dh K mg "inner_root" f26 _ ["inner"] := ⟨PySem.W.mg_of X G a26, k26, b_inner_root⟩
  have F_root := fun_mk (st := s_root) l27 c27 k27
  have b_root := F_root.binds (ps := ["book", "text"]) fun _ _ _ _ _ _ us hl => match us, hl with | [_, _], _ => rfl
  have D_root : Wp.Dh K mg "root" f27 _ ["book", "text"] := ⟨PySem.W.mg_of X G a27, k27, b_root⟩
  have F__law_source := fun_mk (st := s__law_source) l28 c28 k28
  have b__law_source := F__law_source.binds (ps := ["_law_script", "_law_place"]) fun _ _ _ _ _ _ us hl => match us, hl with | [_, _], _ => rfl
  have D__law_source : Wp.Dh K mg "_law_source" f28 _ ["_law_script", "_law_place"] := ⟨PySem.W.mg_of X G a28, k28, b__law_source⟩
  have F__law_pick := fun_mk (st := s__law_pick) l29 c29 k29
  have b__law_pick := F__law_pick.binds (ps := ["_law_source_here", "_law_many"]) fun _ _ _ _ _ _ us hl => match us, hl with | [_, _], _ => rfl
  have D__law_pick : Wp.Dh K mg "_law_pick" f29 _ ["_law_source_here", "_law_many"] := ⟨PySem.W.mg_of X G a29, k29, b__law_pick⟩
  have F__law_text := fun_mk (st := s__law_text) l30 c30 k30
  have b__law_text := F__law_text.binds (ps := ["_law_source_here", "_law_signs", "_law_most"]) fun _ _ _ _ _ _ us hl => match us, hl with | [_, _, _], _ => rfl
  have D__law_text : Wp.Dh K mg "_law_text" f30 _ ["_law_source_here", "_law_signs", "_law_most"] := ⟨PySem.W.mg_of X G a30, k30, b__law_text⟩
  have F__law_left := fun_mk (st := s__law_left) l31 c31 k31
  have b__law_left := F__law_left.binds (ps := ["_law_rules", "_law_text_here"]) fun _ _ _ _ _ _ us hl => match us, hl with | [_, _], _ => rfl
  have D__law_left : Wp.Dh K mg "_law_left" f31 _ ["_law_rules", "_law_text_here"] := ⟨PySem.W.mg_of X G a31, k31, b__law_left⟩
  have F__law_is_end := fun_mk (st := s__law_is_end) l32 c32 k32
  have b__law_is_end := F__law_is_end.binds (ps := ["_law_rules", "_law_text_here"]) fun _ _ _ _ _ _ us hl => match us, hl with | [_, _], _ => rfl
  have D__law_is_end : Wp.Dh K mg "_law_is_end" f32 _ ["_law_rules", "_law_text_here"] := ⟨PySem.W.mg_of X G a32, k32, b__law_is_end⟩
  have F__law_ends := fun_mk (st := s__law_ends) l33 c33 k33
  have b__law_ends := F__law_ends.binds (ps := ["_law_signs", "_law_rules", "_law_size"]) fun _ _ _ _ _ _ us hl => match us, hl with | [_, _, _], _ => rfl
  have D__law_ends : Wp.Dh K mg "_law_ends" f33 _ ["_law_signs", "_law_rules", "_law_size"] := ⟨PySem.W.mg_of X G a33, k33, b__law_ends⟩
  have F__law_products := fun_mk (st := s__law_products) l34 c34 k34
  have b__law_products := F__law_products.binds (ps := ["_law_code"]) fun _ _ _ _ _ _ us hl => match us, hl with | [_], _ => rfl
  have D__law_products : Wp.Dh K mg "_law_products" f34 _ ["_law_code"] := ⟨PySem.W.mg_of X G a34, k34, b__law_products⟩
  have F__law_arrows := fun_mk (st := s__law_arrows) l35 c35 k35
  have b__law_arrows := F__law_arrows.binds (ps := ["_law_shapes"]) fun _ _ _ _ _ _ us hl => match us, hl with | [_], _ => rfl
  have D__law_arrows : Wp.Dh K mg "_law_arrows" f35 _ ["_law_shapes"] := ⟨PySem.W.mg_of X G a35, k35, b__law_arrows⟩
  have F__law_group_parts := fun_mk (st := s__law_group_parts) l36 c36 k36
  have b__law_group_parts := F__law_group_parts.binds (ps := ["_law_source_here"]) fun _ _ _ _ _ _ us hl => match us, hl with | [_], _ => rfl
  have D__law_group_parts : Wp.Dh K mg "_law_group_parts" f36 _ ["_law_source_here"] := ⟨PySem.W.mg_of X G a36, k36, b__law_group_parts⟩
  have F__law_shuffled := fun_mk (st := s__law_shuffled) l37 c37 k37
  have b__law_shuffled := F__law_shuffled.binds (ps := ["_law_source_here", "_law_row"]) fun _ _ _ _ _ _ us hl => match us, hl with | [_, _], _ => rfl
  have D__law_shuffled : Wp.Dh K mg "_law_shuffled" f37 _ ["_law_source_here", "_law_row"] := ⟨PySem.W.mg_of X G a37, k37, b__law_shuffled⟩
  have F__law_group := fun_mk (st := s__law_group) l38 c38 k38
  have b__law_group := F__law_group.binds (ps := ["_law_source_here", "_law_shapes"]) fun _ _ _ _ _ _ us hl => match us, hl with | [_, _], _ => rfl
  have D__law_group : Wp.Dh K mg "_law_group" f38 _ ["_law_source_here", "_law_shapes"] := ⟨PySem.W.mg_of X G a38, k38, b__law_group⟩
  have F__law_undo := fun_mk (st := s__law_undo) l39 c39 k39
  have b__law_undo := F__law_undo.binds (ps := ["_law_signs", "_law_rules"]) fun _ _ _ _ _ _ us hl => match us, hl with | [_, _], _ => rfl
  have D__law_undo : Wp.Dh K mg "_law_undo" f39 _ ["_law_signs", "_law_rules"] := ⟨PySem.W.mg_of X G a39, k39, b__law_undo⟩
  have F__law_undone := fun_mk (st := s__law_undone) l40 c40 k40
  have b__law_undone := F__law_undone.binds (ps := ["_law_undo_here", "_law_text_here"]) fun _ _ _ _ _ _ us hl => match us, hl with | [_, _], _ => rfl
  have D__law_undone : Wp.Dh K mg "_law_undone" f40 _ ["_law_undo_here", "_law_text_here"] := ⟨PySem.W.mg_of X G a40, k40, b__law_undone⟩
  have F__law_group_text := fun_mk (st := s__law_group_text) l41 c41 k41
  have b__law_group_text := F__law_group_text.binds (ps := ["_law_source_here", "_law_signs", "_law_rules", "_law_undo_here", "_law_arrow_of"]) fun _ _ _ _ _ _ us hl => match us, hl with | [_, _, _, _, _], _ => rfl
  have D__law_group_text : Wp.Dh K mg "_law_group_text" f41 _ ["_law_source_here", "_law_signs", "_law_rules", "_law_undo_here", "_law_arrow_of"] := ⟨PySem.W.mg_of X G a41, k41, b__law_group_text⟩
  have F__law_power := fun_mk (st := s__law_power) l42 c42 k42
  have b__law_power := F__law_power.binds (ps := ["_law_rules", "_law_text_here", "_law_number"]) fun _ _ _ _ _ _ us hl => match us, hl with | [_, _, _], _ => rfl
  have D__law_power : Wp.Dh K mg "_law_power" f42 _ ["_law_rules", "_law_text_here", "_law_number"] := ⟨PySem.W.mg_of X G a42, k42, b__law_power⟩
  have F__law_times := fun_mk (st := s__law_times) l43 c43 k43
  have b__law_times := F__law_times.binds (ps := ["_law_rules", "_law_text_here"]) fun _ _ _ _ _ _ us hl => match us, hl with | [_, _], _ => rfl
  have D__law_times : Wp.Dh K mg "_law_times" f43 _ ["_law_rules", "_law_text_here"] := ⟨PySem.W.mg_of X G a43, k43, b__law_times⟩
  have F_law := fun_mk (st := s_law) l44 c44 k44
  have b_law := F_law.binds (ps := ["_law_script"]) fun _ _ _ _ _ _ us hl => match us, hl with | [_], _ => rfl
  have k_ShrunkError : mg "ShrunkError" = some (.ref CR) := PySem.W.mg_of X G gCR
  have k_HasOrder : mg "HasOrder" = some (.ref CH) := PySem.W.mg_of X G gCH
  have k_BadSigns : mg "BadSigns" = some (.ref CS) := PySem.W.mg_of X G gCS
  have k_BadText : mg "BadText" = some (.ref CT) := PySem.W.mg_of X G gCT
  have k_BadRule : mg "BadRule" = some (.ref CB) := PySem.W.mg_of X G gCB
  have k_Book : mg "Book" = some (.ref C) := PySem.W.mg_of X G gC
  have k_Arrows : mg "Arrows" = some (.ref AR) := PySem.W.mg_of X G gAR
  have F_I7 := fun_mk (x := "__init__") (qual := "HasOrder.__init__") (st := s_HasOrder___init__) lI7 cI7 kI7
  have b_I7 := F_I7.binds (ps := ["self", "number"]) fun _ _ _ _ _ _ us hl => match us, hl with | [_, _], _ => rfl
  have F_I1 := fun_mk (x := "__init__") (qual := "WrongThing.__init__") (st := s_initT) lI1 cI1 kI1
  have b_I1 := F_I1.binds (ps := ["self", "thing"]) fun _ _ _ _ _ _ us hl => match us, hl with | [_, _], _ => rfl
  have F_I2 := fun_mk (x := "__init__") (qual := "WrongItem.__init__") (st := s_initI) lI2 cI2 kI2
  have b_I2 := F_I2.binds (ps := ["self", "place"]) fun _ _ _ _ _ _ us hl => match us, hl with | [_, _], _ => rfl
  have F_I4 := fun_mk (x := "__init__") (qual := "Book.__init__") (st := s_Book___init__) lI4 cI4 kI4
  have b_I4 := F_I4.binds (ps := ["self", "signs", "rules"]) fun _ _ _ _ _ _ us hl => match us, hl with | [_, _, _], _ => rfl
  have F_I5 := fun_mk (x := "__init__") (qual := "Arrows.__init__") (st := s_Arrows___init__) lI5 cI5 kI5
  have b_I5 := F_I5.binds (ps := ["self", "book", "rights", "undoing"]) fun _ _ _ _ _ _ us hl => match us, hl with | [_, _, _, _], _ => rfl
  have P_Q : PropOf K C "quarrel" pQ fQ := ⟨aQ, pgQ, ptQ, ⟨_, prQ⟩⟩
  have F_Q := fun_mk (x := "quarrel") (qual := "Book.quarrel") (st := s_Book_quarrel) lQ cQ kQ
  have b_Q := F_Q.binds (ps := ["self"]) fun _ _ _ _ _ _ us hl => match us, hl with | [_], _ => rfl
  have P_IL : Meth K AR "is_loop" fIL := ⟨aIL, nIL, kIL⟩
  have F_IL := fun_mk (x := "is_loop") (qual := "Arrows.is_loop") (st := s_Arrows_is_loop) lIL cIL kIL
  have b_IL := F_IL.binds (ps := ["self", "text"]) fun _ _ _ _ _ _ us hl => match us, hl with | [_, _], _ => rfl
  have P_UT : Meth K AR "undone_text" fUT := ⟨aUT, nUT, kUT⟩
  have F_UT := fun_mk (x := "undone_text") (qual := "Arrows.undone_text") (st := s_Arrows_undone_text) lUT cUT kUT
  have b_UT := F_UT.binds (ps := ["self", "text"]) fun _ _ _ _ _ _ us hl => match us, hl with | [_, _], _ => rfl
  have O_BadSigns : OexC K CS := ⟨⟨_, _, _, _, _, _, _, _, _, _, _, _, _, _, _, xCS, vCS⟩, saCS, exCS, tyCS, kCCS⟩
  have T_BadSigns : Wp.ExT K mg "BadSigns" CS fI1 "thing" := ⟨O_BadSigns, k_BadSigns, aI1, tI1, noCS⟩
  have O_BadText : OexC K CT := ⟨⟨_, _, _, _, _, _, _, _, _, _, _, _, _, _, _, xCT, vCT⟩, saCT, exCT, tyCT, kCCT⟩
  have T_BadText : Wp.ExT K mg "BadText" CT fI1 "thing" := ⟨O_BadText, k_BadText, aaCT, tI1, noCT⟩
  have O_HasOrder : OexC K CH := ⟨⟨_, _, _, _, _, _, _, _, _, _, _, _, _, _, _, xCH, vCH⟩, saCH, exCH, tyCH, kCCH⟩
  have T_HasOrder : Wp.ExT K mg "HasOrder" CH fI7 "number" := ⟨O_HasOrder, k_HasOrder, aI7, tI7, noCH⟩
  have C_HasOrder : Bk.Ca K mg "HasOrder" CH "number" := ⟨k_HasOrder, Wp.exm_of exCH icCH tyCH ssCH, ⟨gaCH, ggCH, exCH, hdCH⟩, noCH, ⟨gaCH, ggCH, exCH, hdCH, haCH, hnCH, htCH, hmCH⟩⟩
  have O_BadRule : OexC K CB := ⟨⟨_, _, _, _, _, _, _, _, _, _, _, _, _, _, _, xCB, vCB⟩, saCB, exCB, tyCB, kCCB⟩
  have T_BadRule : Wp.ExT K mg "BadRule" CB fI2 "place" := ⟨O_BadRule, k_BadRule, aI2, tI2, noCB⟩
  have M_Book : Mk K C fI4 := ⟨mkC, aI4, by (show (PySem.W.typeIn K (.ref fI4) == some (.type "function")) = true); rw [tI4]; rfl, kpC⟩
  have K_Book : Cls K C := ⟨pgC, hdC, poC, saC⟩
  have M_Arrows : Mk K AR fI5 := ⟨mkAR, aI5, by (show (PySem.W.typeIn K (.ref fI5) == some (.type "function")) = true); rw [tI5]; rfl, kpAR⟩
  have K_Arrows : Cls K AR := ⟨pgAR, hdAR, poAR, saAR⟩
  have iCHCR := Wp.kit_of icCR tyCR uCHCR ssCH
  have c_MOST_SIGNS : ∃ t, mg "MOST_SIGNS" = some (.int 8 t) := ⟨_, PySem.W.mg_of X G nMOST_SIGNS⟩
  have c_LONGEST_TEXT : ∃ t, mg "LONGEST_TEXT" = some (.int 200 t) := ⟨_, PySem.W.mg_of X G nLONGEST_TEXT⟩
  have c_MOST_RULES : ∃ t, mg "MOST_RULES" = some (.int 64 t) := ⟨_, PySem.W.mg_of X G nMOST_RULES⟩
  have c_LONGEST_LEFT : ∃ t, mg "LONGEST_LEFT" = some (.int 4 t) := ⟨_, PySem.W.mg_of X G nLONGEST_LEFT⟩
  have c_LONGEST_RIGHT : ∃ t, mg "LONGEST_RIGHT" = some (.int 1 t) := ⟨_, PySem.W.mg_of X G nLONGEST_RIGHT⟩
  have B_any : mg "any" = none := PySem.W.mg_none_of X G z_any
  have B : Wp.Blt mg := { int := PySem.W.mg_none_of X G z_int, len := PySem.W.mg_none_of X G z_len, range := PySem.W.mg_none_of X G z_range, abs := PySem.W.mg_none_of X G z_abs, max := PySem.W.mg_none_of X G z_max, min := PySem.W.mg_none_of X G z_min, tuple := PySem.W.mg_none_of X G z_tuple, list := PySem.W.mg_none_of X G z_list, str := PySem.W.mg_none_of X G z_str, bool := PySem.W.mg_none_of X G z_bool, sorted := PySem.W.mg_none_of X G z_sorted, repr := PySem.W.mg_none_of X G z_repr, isinstance := PySem.W.mg_none_of X G z_isinstance, enumerate := PySem.W.mg_none_of X G z_enumerate, all := PySem.W.mg_none_of X G z_all }
  refine ⟨PySem.W.fnOf "law" "law" (defArgs s_law) (defBody s_law) (defScope s_law) .none kV44 dc44 pm44 an44 cd44 ct44, fun s u => .of_eq rfl, fun base _ _ => ?_⟩
  have TB : BkC K C := ⟨K_Book, nxC0, nxC1, nxC2, nxC3⟩
  have TA : ArC K AR := ⟨K_Arrows, nxAR0, nxAR1, nxAR2, nxAR3, nxAR4, nxAR5⟩
  have GT := ok_initT (P := l.prog) (w := w) (mg := mg) (base := base) F_I1
  have GH := ok_initHO (P := l.prog) (w := w) (mg := mg) (base := base) F_I7
  have GI := ok_initI (P := l.prog) (w := w) (mg := mg) (base := base) F_I2
  have G_is_row := ok_row (P := l.prog) (w := w) (mg := mg) (base := base) B F_is_row
  have G_is_text := ok_text (P := l.prog) (w := w) (mg := mg) (base := base) B F_is_text
  have G_checked_signs := ok_signed (P := l.prog) (w := w) (mg := mg) (base := base) B F_checked_signs T_BadSigns c_MOST_SIGNS GT b_I1
  have G_checked_text := ok_ctext (P := l.prog) (w := w) (mg := mg) (base := base) B F_checked_text c_LONGEST_TEXT D_is_text G_is_text T_BadText GT b_I1
  have G_is_rule := ok_rule (P := l.prog) (w := w) (mg := mg) (base := base) B F_is_rule c_LONGEST_LEFT c_LONGEST_RIGHT D_is_row G_is_row D_is_text G_is_text
  have G_rules_of := ok_rules (P := l.prog) (w := w) (mg := mg) (base := base) B F_rules_of c_MOST_RULES D_is_row G_is_row D_is_rule G_is_rule T_BadRule GI b_I2
  have G_first_rights := ok_rights (P := l.prog) (w := w) (mg := mg) (base := base) B F_first_rights
  have G_rightsK := ok_rightsK (P := l.prog) (w := w) (mg := mg) (base := base) B F_first_rights
  have G_first_fit := ok_fit (P := l.prog) (w := w) (mg := mg) (base := base) B F_first_fit
  have G_left_of_all := ok_all (P := l.prog) (w := w) (mg := mg) (base := base) B F_left_of_all c_LONGEST_LEFT D_first_fit G_first_fit
  have G_left_over := ok_left (P := l.prog) (w := w) (mg := mg) (base := base) B F_left_over D_left_of_all G_left_of_all
  have G_used := ok_used (P := l.prog) (w := w) (mg := mg) (base := base) B F_used
  have G_overlap_text := ok_ovt (P := l.prog) (w := w) (mg := mg) (base := base) B F_overlap_text
  have G_overlaps_of := ok_ovS (P := l.prog) (w := w) (mg := mg) (base := base) B F_overlaps_of D_overlap_text G_overlap_text
  have G_quarrel_of := ok_quarS (P := l.prog) (w := w) (mg := mg) (base := base) B F_quarrel_of D_first_rights G_first_rights D_overlaps_of G_overlaps_of D_used G_used D_left_over G_left_over
  have G_Book := ok_book (P := l.prog) (w := w) (mg := mg) (base := base) B F_I4 TB D_checked_signs G_checked_signs D_rules_of G_rules_of D_first_rights G_first_rights D_quarrel_of G_quarrel_of
  have G_getq := ok_getq (P := l.prog) (w := w) (mg := mg) (base := base) B F_Q TB
  have G_checked_book := ok_checkedB (P := l.prog) (w := w) (mg := mg) (base := base) B F_checked_book TB P_Q G_getq b_Q
  have G_ascending_texts := ok_asc (P := l.prog) (w := w) (mg := mg) (base := base) B F_ascending_texts
  have G_has_proper_piece := ok_proper (P := l.prog) (w := w) (mg := mg) (base := base) B F_has_proper_piece
  have G_least_rules := ok_leastR (P := l.prog) (w := w) (mg := mg) (base := base) B F_least_rules TB D_first_rights G_rightsK D_has_proper_piece G_has_proper_piece D_ascending_texts G_ascending_texts D_left_over G_left_over
  have G_undoing_signs := ok_undo (P := l.prog) (w := w) (mg := mg) (base := base) B F_undoing_signs
  have G_first_places := ok_first (P := l.prog) (w := w) (mg := mg) (base := base) B F_first_places
  have G_least_places := ok_leastP (P := l.prog) (w := w) (mg := mg) (base := base) B F_least_places
  have G_Arrows := ok_arI (P := l.prog) (w := w) (mg := mg) (base := base) B F_I5 TB TA D_first_places G_first_places D_least_places G_least_places
  have G_is_loop := ok_isLoop (P := l.prog) (w := w) (mg := mg) (base := base) (C := C) B F_IL TA
  have G_checked_arrows := ok_checkedA (P := l.prog) (w := w) (mg := mg) (base := base) B F_checked_arrows TB D_checked_book G_checked_book D_least_rules G_least_rules D_undoing_signs G_undoing_signs M_Arrows k_Arrows G_Arrows b_I5
  have G_over := ok_over (P := l.prog) (w := w) (mg := mg) (base := base) B F_over TB D_first_rights G_first_rights D_left_over G_left_over
  have G_unwrapped := ok_unw (P := l.prog) (w := w) (mg := mg) (base := base) (C := C) B F_unwrapped TA
  have G_order_of_inner := ok_oInner (P := l.prog) (w := w) (mg := mg) (base := base) B F_order_of_inner TA P_IL G_is_loop b_IL D_over G_over
  have G_undT := ok_undT (P := l.prog) (w := w) (mg := mg) (base := base) (C := C) B F_UT TA
  have G_inner_root := ok_iroot (P := l.prog) (w := w) (mg := mg) (base := base) B F_inner_root
  have G_root := ok_root (P := l.prog) (w := w) (mg := mg) (base := base) B F_root TB TA D_checked_arrows G_checked_arrows D_unwrapped G_unwrapped D_order_of_inner G_order_of_inner D_inner_root G_inner_root D_over G_over D_checked_text G_checked_text P_UT G_undT b_UT T_HasOrder GH b_I7
  have G__law_source := ok_source (P := l.prog) (w := w) (mg := mg) (base := base) B F__law_source
  have G__law_pick := ok_pick (P := l.prog) (w := w) (mg := mg) (base := base) B F__law_pick
  have G__law_left := ok_lleft (P := l.prog) (w := w) (mg := mg) (base := base) B F__law_left
  have G__law_products := ok_prod (P := l.prog) (w := w) (mg := mg) (base := base) B F__law_products
  have G__law_arrows := ok_arws (P := l.prog) (w := w) (mg := mg) (base := base) B F__law_arrows D__law_products G__law_products
  have G__law_group_parts := ok_gparts (P := l.prog) (w := w) (mg := mg) (base := base) B F__law_group_parts D__law_pick G__law_pick D__law_arrows G__law_arrows
  have G__law_shuffled := ok_shuf (P := l.prog) (w := w) (mg := mg) (base := base) B F__law_shuffled D__law_pick G__law_pick
  have G__law_group := ok_group (P := l.prog) (w := w) (mg := mg) (base := base) B F__law_group D__law_pick G__law_pick D__law_products G__law_products D__law_arrows G__law_arrows D__law_shuffled G__law_shuffled
  have G__law_text := ok_gtext (P := l.prog) (w := w) (mg := mg) (base := base) B F__law_text D__law_pick G__law_pick
  have G__law_undo := ok_lundo (P := l.prog) (w := w) (mg := mg) (base := base) B F__law_undo
  have G__law_undone := ok_lundone (P := l.prog) (w := w) (mg := mg) (base := base) B F__law_undone
  have G__law_group_text := ok_gtxt (P := l.prog) (w := w) (mg := mg) (base := base) B F__law_group_text D__law_pick G__law_pick D__law_text G__law_text D__law_undone G__law_undone D__law_left G__law_left
  have G__law_power := ok_lpower (P := l.prog) (w := w) (mg := mg) (base := base) B F__law_power D__law_left G__law_left
  have G__law_times := ok_ltimes (P := l.prog) (w := w) (mg := mg) (base := base) B F__law_times D__law_left G__law_left
  have G__law_is_end := ok_isend (P := l.prog) (w := w) (mg := mg) (base := base) B B_any F__law_is_end
  have G__law_ends := ok_lends (P := l.prog) (w := w) (mg := mg) (base := base) B B_any F__law_ends
  exact top_law (P := l.prog) (w := w) (mg := mg) (base := base) B F_law TB D__law_source G__law_source D__law_pick G__law_pick D__law_left G__law_left D__law_is_end G__law_is_end D__law_ends G__law_ends D__law_group_parts G__law_group_parts D__law_group G__law_group D__law_power G__law_power D__law_text G__law_text D__law_group_text G__law_group_text D__law_undo G__law_undo D__law_undone G__law_undone D__law_times G__law_times D_root G_root M_Book k_Book G_Book b_I4 C_HasOrder k_ShrunkError iCHCR
end
end K57
open PySem PySem.W PyProof.Rows
set_option maxHeartbeats 0 in
theorem PySem.Challenge.cw_shrunkalike_k57_whole_roots_holds : PySem.Challenge.rw_shrunkalike_k57_whole_roots.Holds := by
  w_on; o_law; k_head; (case hw => w_witness2)
  k_fill
  refine Wp.walk_top (l := PySem.Challenge.rw_shrunkalike_k57_whole_roots) (n := 63) (x := "_law_script") (CX := fun _ => L2.CX0) (sp := fun w => K57.spLaw _) rfl (by decide) rfl (fun w h Y => PySem.W.kIn_of Y) ?F (fun _ _ a ns hl hb _ hS => ⟨a, ns, rfl, hS, hl, hb, fun _ => rfl⟩) ?X
  case F =>
    intro w mg fa h KX G hmg
    refine' K57.all_mk KX G hmg ?a1 ?l1 ?c1 ?k1 ?a2 ?l2 ?c2 ?k2 ?a3 ?l3 ?c3 ?k3 ?a4 ?l4 ?c4 ?k4 ?a5 ?l5 ?c5 ?k5 ?a6 ?l6 ?c6 ?k6 ?a7 ?l7 ?c7 ?k7 ?a8 ?l8 ?c8 ?k8 ?a9 ?l9 ?c9 ?k9 ?a10 ?l10 ?c10 ?k10 ?a11 ?l11 ?c11 ?k11 ?a12 ?l12 ?c12 ?k12 ?a13 ?l13 ?c13 ?k13 ?a14 ?l14 ?c14 ?k14 ?a15 ?l15 ?c15 ?k15 ?a16 ?l16 ?c16 ?k16 ?a17 ?l17 ?c17 ?k17 ?a18 ?l18 ?c18 ?k18 ?a19 ?l19 ?c19 ?k19 ?a20 ?l20 ?c20 ?k20 ?a21 ?l21 ?c21 ?k21 ?a22 ?l22 ?c22 ?k22 ?a23 ?l23 ?c23 ?k23 ?a24 ?l24 ?c24 ?k24 ?a25 ?l25 ?c25 ?k25 ?a26 ?l26 ?c26 ?k26 ?a27 ?l27 ?c27 ?k27 ?a28 ?l28 ?c28 ?k28 ?a29 ?l29 ?c29 ?k29 ?a30 ?l30 ?c30 ?k30 ?a31 ?l31 ?c31 ?k31 ?a32 ?l32 ?c32 ?k32 ?a33 ?l33 ?c33 ?k33 ?a34 ?l34 ?c34 ?k34 ?a35 ?l35 ?c35 ?k35 ?a36 ?l36 ?c36 ?k36 ?a37 ?l37 ?c37 ?k37 ?a38 ?l38 ?c38 ?k38 ?a39 ?l39 ?c39 ?k39 ?a40 ?l40 ?c40 ?k40 ?a41 ?l41 ?c41 ?k41 ?a42 ?l42 ?c42 ?k42 ?a43 ?l43 ?c43 ?k43 ?a44 ?l44 ?c44 ?k44 ?gCR ?tyCR ?icCR ?gCH ?tyCH ?icCH ?gCS ?tyCS ?icCS ?gCT ?tyCT ?icCT ?gCB ?tyCB ?icCB ?gC ?tyC ?icC ?gAR ?tyAR ?icAR ?aI7 ?tI7 ?lI7 ?cI7 ?kI7 ?aI1 ?tI1 ?lI1 ?cI1 ?kI1 ?aI2 ?tI2 ?lI2 ?cI2 ?kI2 ?aI4 ?tI4 ?lI4 ?cI4 ?kI4 ?aI5 ?tI5 ?lI5 ?cI5 ?kI5 ?aQ ?pgQ ?ptQ ?prQ ?lQ ?cQ ?kQ ?aIL ?nIL ?lIL ?cIL ?kIL ?aUT ?nUT ?lUT ?cUT ?kUT ?xCS ?vCS ?saCS ?exCS ?kCCS ?noCS ?xCT ?vCT ?saCT ?exCT ?kCCT ?noCT ?aaCT ?xCH ?vCH ?saCH ?exCH ?kCCH ?noCH ?gaCH ?ggCH ?hdCH ?ssCH ?haCH ?hnCH ?htCH ?hmCH ?xCB ?vCB ?saCB ?exCB ?kCCB ?noCB ?mkC ?kpC ?pgC ?hdC ?poC ?saC ?nxC0 ?nxC1 ?nxC2 ?nxC3 ?mkAR ?kpAR ?pgAR ?hdAR ?poAR ?saAR ?nxAR0 ?nxAR1 ?nxAR2 ?nxAR3 ?nxAR4 ?nxAR5 ?uCHCR ?nMOST_SIGNS ?nLONGEST_TEXT ?nMOST_RULES ?nLONGEST_LEFT ?nLONGEST_RIGHT ?z_int ?z_len ?z_range ?z_abs ?z_max ?z_min ?z_tuple ?z_list ?z_str ?z_bool ?z_sorted ?z_repr ?z_isinstance ?z_enumerate ?z_all ?z_any
    (case a1 => k_is)
    (case l1 => k_is)
    (case c1 => k_is)
    (case k1 => k_is)
    (case a2 => k_is)
    (case l2 => k_is)
    (case c2 => k_is)
    (case k2 => k_is)
    (case a3 => k_is)
    (case l3 => k_is)
    (case c3 => k_is)
    (case k3 => k_is)
    (case a4 => k_is)
    (case l4 => k_is)
    (case c4 => k_is)
    (case k4 => k_is)
    (case a5 => k_is)
    (case l5 => k_is)
    (case c5 => k_is)
    (case k5 => k_is)
    (case a6 => k_is)
    (case l6 => k_is)
    (case c6 => k_is)
    (case k6 => k_is)
    (case a7 => k_is)
    (case l7 => k_is)
    (case c7 => k_is)
    (case k7 => k_is)
    (case a8 => k_is)
    (case l8 => k_is)
    (case c8 => k_is)
    (case k8 => k_is)
    (case a9 => k_is)
    (case l9 => k_is)
    (case c9 => k_is)
    (case k9 => k_is)
    (case a10 => k_is)
    (case l10 => k_is)
    (case c10 => k_is)
    (case k10 => k_is)
    (case a11 => k_is)
    (case l11 => k_is)
    (case c11 => k_is)
    (case k11 => k_is)
    (case a12 => k_is)
    (case l12 => k_is)
    (case c12 => k_is)
    (case k12 => k_is)
    (case a13 => k_is)
    (case l13 => k_is)
    (case c13 => k_is)
    (case k13 => k_is)
    (case a14 => k_is)
    (case l14 => k_is)
    (case c14 => k_is)
    (case k14 => k_is)
    (case a15 => k_is)
    (case l15 => k_is)
    (case c15 => k_is)
    (case k15 => k_is)
    (case a16 => k_is)
    (case l16 => k_is)
    (case c16 => k_is)
    (case k16 => k_is)
    (case a17 => k_is)
    (case l17 => k_is)
    (case c17 => k_is)
    (case k17 => k_is)
    (case a18 => k_is)
    (case l18 => k_is)
    (case c18 => k_is)
    (case k18 => k_is)
    (case a19 => k_is)
    (case l19 => k_is)
    (case c19 => k_is)
    (case k19 => k_is)
    (case a20 => k_is)
    (case l20 => k_is)
    (case c20 => k_is)
    (case k20 => k_is)
    (case a21 => k_is)
    (case l21 => k_is)
    (case c21 => k_is)
    (case k21 => k_is)
    (case a22 => k_is)
    (case l22 => k_is)
    (case c22 => k_is)
    (case k22 => k_is)
    (case a23 => k_is)
    (case l23 => k_is)
    (case c23 => k_is)
    (case k23 => k_is)
    (case a24 => k_is)
    (case l24 => k_is)
    (case c24 => k_is)
    (case k24 => k_is)
    (case a25 => k_is)
    (case l25 => k_is)
    (case c25 => k_is)
    (case k25 => k_is)
    (case a26 => k_is)
    (case l26 => k_is)
    (case c26 => k_is)
    (case k26 => k_is)
    (case a27 => k_is)
    (case l27 => k_is)
    (case c27 => k_is)
    (case k27 => k_is)
    (case a28 => k_is)
    (case l28 => k_is)
    (case c28 => k_is)
    (case k28 => k_is)
    (case a29 => k_is)
    (case l29 => k_is)
    (case c29 => k_is)
    (case k29 => k_is)
    (case a30 => k_is)
    (case l30 => k_is)
    (case c30 => k_is)
    (case k30 => k_is)
    (case a31 => k_is)
    (case l31 => k_is)
    (case c31 => k_is)
    (case k31 => k_is)
    (case a32 => k_is)
    (case l32 => k_is)
    (case c32 => k_is)
    (case k32 => k_is)
    (case a33 => k_is)
    (case l33 => k_is)
    (case c33 => k_is)
    (case k33 => k_is)
    (case a34 => k_is)
    (case l34 => k_is)
    (case c34 => k_is)
    (case k34 => k_is)
    (case a35 => k_is)
    (case l35 => k_is)
    (case c35 => k_is)
    (case k35 => k_is)
    (case a36 => k_is)
    (case l36 => k_is)
    (case c36 => k_is)
    (case k36 => k_is)
    (case a37 => k_is)
    (case l37 => k_is)
    (case c37 => k_is)
    (case k37 => k_is)
    (case a38 => k_is)
    (case l38 => k_is)
    (case c38 => k_is)
    (case k38 => k_is)
    (case a39 => k_is)
    (case l39 => k_is)
    (case c39 => k_is)
    (case k39 => k_is)
    (case a40 => k_is)
    (case l40 => k_is)
    (case c40 => k_is)
    (case k40 => k_is)
    (case a41 => k_is)
    (case l41 => k_is)
    (case c41 => k_is)
    (case k41 => k_is)
    (case a42 => k_is)
    (case l42 => k_is)
    (case c42 => k_is)
    (case k42 => k_is)
    (case a43 => k_is)
    (case l43 => k_is)
    (case c43 => k_is)
    (case k43 => k_is)
    (case a44 => k_is)
    (case l44 => k_is)
    (case c44 => k_is)
    (case k44 => k_is)
    (case gCR => k_is)
    (case tyCR => k_is)
    (case icCR => k_is)
    (case gCH => k_is)
    (case tyCH => k_is)
    (case icCH => k_is)
    (case gCS => k_is)
    (case tyCS => k_is)
    (case icCS => k_is)
    (case gCT => k_is)
    (case tyCT => k_is)
    (case icCT => k_is)
    (case gCB => k_is)
    (case tyCB => k_is)
    (case icCB => k_is)
    (case gC => k_is)
    (case tyC => k_is)
    (case icC => k_is)
    (case gAR => k_is)
    (case tyAR => k_is)
    (case icAR => k_is)
    (case aI7 => k_is)
    (case tI7 => k_is)
    (case lI7 => k_is)
    (case cI7 => k_is)
    (case kI7 => k_is)
    (case aI1 => k_is)
    (case tI1 => k_is)
    (case lI1 => k_is)
    (case cI1 => k_is)
    (case kI1 => k_is)
    (case aI2 => k_is)
    (case tI2 => k_is)
    (case lI2 => k_is)
    (case cI2 => k_is)
    (case kI2 => k_is)
    (case aI4 => k_is)
    (case tI4 => k_is)
    (case lI4 => k_is)
    (case cI4 => k_is)
    (case kI4 => k_is)
    (case aI5 => k_is)
    (case tI5 => k_is)
    (case lI5 => k_is)
    (case cI5 => k_is)
    (case kI5 => k_is)
    (case aQ => k_is)
    (case pgQ => k_is)
    (case ptQ => k_is)
    (case prQ => k_is)
    (case lQ => k_is)
    (case cQ => k_is)
    (case kQ => k_is)
    (case aIL => k_is)
    (case nIL => k_is)
    (case lIL => k_is)
    (case cIL => k_is)
    (case kIL => k_is)
    (case aUT => k_is)
    (case nUT => k_is)
    (case lUT => k_is)
    (case cUT => k_is)
    (case kUT => k_is)
    (case xCS => k_is)
    (case vCS => decide +kernel)
    (case saCS => k_is)
    (case exCS => k_is)
    (case kCCS => k_is)
    (case noCS => k_is)
    (case xCT => k_is)
    (case vCT => decide +kernel)
    (case saCT => k_is)
    (case exCT => k_is)
    (case kCCT => k_is)
    (case noCT => k_is)
    (case aaCT => k_is)
    (case xCH => k_is)
    (case vCH => decide +kernel)
    (case saCH => k_is)
    (case exCH => k_is)
    (case kCCH => k_is)
    (case noCH => k_is)
    (case gaCH => k_is)
    (case ggCH => k_is)
    (case hdCH => k_is)
    (case ssCH => k_is)
    (case haCH => k_is)
    (case hnCH => k_is)
    (case htCH => k_is)
    (case hmCH => k_is)
    (case xCB => k_is)
    (case vCB => decide +kernel)
    (case saCB => k_is)
    (case exCB => k_is)
    (case kCCB => k_is)
    (case noCB => k_is)
    (case mkC => k_is)
    (case kpC => k_is)
    (case pgC => k_is)
    (case hdC => k_is)
    (case poC => k_is)
    (case saC => k_is)
    (case nxC0 => k_is)
    (case nxC1 => k_is)
    (case nxC2 => k_is)
    (case nxC3 => k_is)
    (case mkAR => k_is)
    (case kpAR => k_is)
    (case pgAR => k_is)
    (case hdAR => k_is)
    (case poAR => k_is)
    (case saAR => k_is)
    (case nxAR0 => k_is)
    (case nxAR1 => k_is)
    (case nxAR2 => k_is)
    (case nxAR3 => k_is)
    (case nxAR4 => k_is)
    (case nxAR5 => k_is)
    (case uCHCR => k_is)
    (case nMOST_SIGNS => k_is)
    (case nLONGEST_TEXT => k_is)
    (case nMOST_RULES => k_is)
    (case nLONGEST_LEFT => k_is)
    (case nLONGEST_RIGHT => k_is)
    (case z_int => k_is)
    (case z_len => k_is)
    (case z_range => k_is)
    (case z_abs => k_is)
    (case z_max => k_is)
    (case z_min => k_is)
    (case z_tuple => k_is)
    (case z_list => k_is)
    (case z_str => k_is)
    (case z_bool => k_is)
    (case z_sorted => k_is)
    (case z_repr => k_is)
    (case z_isinstance => k_is)
    (case z_enumerate => k_is)
    (case z_all => k_is)
    (case z_any => k_is)
  case X =>
    exact fun _ _ _ _ _ h => h
