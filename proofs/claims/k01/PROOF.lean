import PyProof.Rows.All
import Wide.All
import OpenK.AllK
import Wide.FinOn
import HandS.Base
import HandS.Call
import HandS.List
import HandS.Comp
import HandS.Ends
import HandS.EndBits
import HandS.Iter
import HandS.Text
import HandS.TupAny
import HandS.Deep
import HandS.IsInst
import HandS.NoneIn
import HandS.Words
import HandS.WordsList
import HandS.WordsExc
import HandS.ExcInit
import HandS.ExcIs
import HandS.Walk
import KE.IntBitsLaws
import KE.DataMinMax
import KE.SortData
import KE.GoesMore
import KE.GoesEnum
import KE.KExcIs
import HandS.ExcField
import HandS.TryOnly
import PyProof.ReprRoads
import PyProof.Rows.RegFStrParts
import PyProof.Rows.ReprShort
import PySem.Challenge.RW_shrunkalike_k01_automata_checked
set_option Elab.async false
set_option linter.all false
set_option maxRecDepth 100000
namespace Wp
open PySem PySem.Spec PyProof.Rows L2
/-! unions of the layer's rules, by the kinds of their operands -/
def rLt : R2 := fun x y H Q => rI0 (fun i j => .bl (decide (i < j))) x y H Q ∨ ∃ i j, x = .str i ∧ y = .str j ∧ Q (.bl (decide (i.cps.toList < j.cps.toList))) H
def rLeD (K : PySem.W.Frag) : R2 := fun x y H Q => ∃ d e, Dp K H x d ∧ Dp K H y e ∧ PySem.W.alike d e = true ∧ d ≠ .none ∧ d.depth ≤ 60 ∧ Q (.bl (!PySem.W.dataLt e d)) H
def rLe (K : PySem.W.Frag) : R2 := fun x y H Q => rI0 (fun i j => .bl (decide (i ≤ j))) x y H Q ∨ (∃ i j, x = .str i ∧ y = .str j ∧ Q (.bl (!decide (j.cps.toList < i.cps.toList))) H) ∨ rLeD K x y H Q
def rInSg (neg : Bool) : R2 := fun x y H Q => ∃ (c : Nat) (z : Str), x = .str ⟨#[c]⟩ ∧ y = .str z ∧ Q (.bl (if neg then !decide (c ∈ z.cps.toList) else decide (c ∈ z.cps.toList))) H
def rGt : R2 := rI0 (fun i j => .bl (decide (j < i)))
def rGe : R2 := rI0 (fun i j => .bl (decide (j ≤ i)))
def rEqU (K : PySem.W.Frag) : R2 := fun x y H Q => rEq x y H Q ∨ rEqD K x y H Q
def rNeU (K : PySem.W.Frag) : R2 := fun x y H Q => rNe x y H Q ∨ rNeD K x y H Q
def rInStr (neg : Bool) : R2 := fun x y H Q => ∃ i j, x = .str i ∧ y = .str j ∧ Q (.bl (if neg then !(!(Builtin.Str.occurrences j i 0 j.length 1).isEmpty) else !(Builtin.Str.occurrences j i 0 j.length 1).isEmpty)) H
def rInU (K : PySem.W.Frag) : R2 := fun x y H Q => rInSg false x y H Q ∨ rInStr false x y H Q ∨ rInD K x y H Q
def rNinU (K : PySem.W.Frag) : R2 := fun x y H Q => rInStr true x y H Q ∨ rNotInD K x y H Q
def rAddU (K : PySem.W.Frag) : R2 := fun x y H Q => rI0 (fun i j => .int (i + j)) x y H Q ∨ (∃ i j, x = .str i ∧ y = .str j ∧ i.length + j.length ≤ sizeLine ∧ Q (.str (i ++ j)) H) ∨ rCatA K x y H Q ∨ rCat x y H Q
def rMulU : R2 := fun x y H Q => rI CMul (fun i j => .int (i * j)) x y H Q ∨ rRep x y H Q
def CShl (i j : Int) : Prop := 0 ≤ j ∧ (Builtin.Int.intBits i : Int) + j ≤ 2 ^ 27
def rSlU (K : PySem.W.Frag) : V → Option Int → Option Int → Hp → VK → Prop := fun x l u H Q => rSlL K x l u H Q ∨ rSlA K x l u H Q ∨ rSlS x l u H Q
def rInt : List V → Hp → VK → Prop := fun xs H Q => (∃ i, xs = [V.int i] ∧ Q (.int i) H) ∨ ∃ k, xs = [V.bl k] ∧ Q (.int (if k then 1 else 0)) H
def rLenU (K : PySem.W.Frag) : List V → Hp → VK → Prop := fun xs H Q => ∃ x n, xs = [x] ∧ LenV K x H n ∧ Q (.int n) H
def rAbs : List V → Hp → VK → Prop := fun xs H Q => ∃ i, xs = [.int i] ∧ Q (.int (if i < 0 then -i else i)) H
def rMax2 : List V → Hp → VK → Prop := fun xs H Q => ∃ i j, xs = [.int i, .int j] ∧ Q (.int (if j > i then j else i)) H
def rMin2 : List V → Hp → VK → Prop := fun xs H Q => ∃ i j, xs = [.int i, .int j] ∧ Q (.int (if j < i then j else i)) H
def rTupOf (K : PySem.W.Frag) : List V → Hp → VK → Prop := fun xs H Q => ∃ p ys, xs = [.ref p] ∧ ((SqL K H p ys ∧ ∀ l, H l = none → Q (.ref l) (upd H l (.tup ys))) ∨ (SqT K H p ys ∧ Q (.ref p) H))
def rLstOf (K : PySem.W.Frag) : List V → Hp → VK → Prop := fun xs H Q => ∃ p ys, xs = [.ref p] ∧ (SqL K H p ys ∨ SqT K H p ys) ∧ ∀ l, H l = none → Q (.ref l) (upd H l (.lst ys))
def rIsU (K : PySem.W.Frag) : List V → Hp → VK → Prop := fun xs H Q => rIsi K xs H Q ∨ rIsiT K xs H Q
section
variable {X : Cx}
theorem wo_lt : OpR X (compareOp .Lt) rLt := op_lt.or op_lt_str
theorem op_leD (hu : X.A.units + 64 < cLine) : OpR X (compareOp .LtE) (rLeD X.K) := by
  intro pins s σ H x y v u Q I rx ry h
  obtain ⟨d, e, hd, he, al, nn, dp, q⟩ := h
  obtain ⟨as, r1⟩ := Dp.reads I d x v hd rx
  obtain ⟨bs, r2⟩ := Dp.reads I e y u he ry
  have hm : min d.depth e.depth ≤ d.depth := Nat.min_le_left _ _
  exact PySem.W.le_data r1 r2 al nn (by omega) ⟨.bl _, H, I, rfl, q⟩
theorem wo_le {K : PySem.W.Frag} (hu : X.A.units + 64 < cLine) (hK : X.K = K := by rfl) : OpR X (compareOp .LtE) (rLe K) := by subst hK; exact op_le.or (op_le_str.or (op_leD hu))
theorem wo_gt : OpR X (compareOp .Gt) rGt := op_gt
theorem wo_ge : OpR X (compareOp .GtE) rGe := op_ge
theorem wo_eq {K : PySem.W.Frag} (hu : X.A.units + 64 < cLine) (hK : X.K = K := by rfl) : OpR X (compareOp .Eq) (rEqU K) := by subst hK; exact op_eq.or (op_eqD hu)
theorem wo_ne {K : PySem.W.Frag} (hu : X.A.units + 64 < cLine) (hK : X.K = K := by rfl) : OpR X (compareOp .NotEq) (rNeU K) := by subst hK; exact op_ne.or (op_neD hu)
theorem wo_in {K : PySem.W.Frag} (hu : X.A.units + 65 < cLine) (hK : X.K = K := by rfl) : OpR X (compareOp .In) (rInU K) := by subst hK; exact op_in_sign.or (op_in_str.or (op_inD hu))
theorem wo_nin {K : PySem.W.Frag} (hu : X.A.units + 65 < cLine) (hK : X.K = K := by rfl) : OpR X (compareOp .NotIn) (rNinU K) := by subst hK; exact op_notin_str.or (op_notInD hu)
theorem wo_add {K : PySem.W.Frag} (hK : X.K = K := by rfl) : OpR X (binaryOp .Add) (rAddU K) := by subst hK; exact op_add.or (op_add_str.or (op_catA.or op_cat))
theorem wo_mul : OpR X (binaryOp .Mult) rMulU := op_mul.or op_rep
theorem op_shlB : OpR X (binaryOp .LShift) (rI CShl fun i j => .int (i * 2 ^ j.toNat)) := opI fun _ _ _ _ _ _ _ hc q => PyProof.Rows.lshift_int hc.1 hc.2 q
theorem ws_any {K : PySem.W.Frag} (hK : X.K = K := by rfl) : SlR X (rSlU K) := by subst hK; exact sl_list.or (sl_tupA.or sl_str)
theorem wx_seq {K : PySem.W.Frag} (hK : X.K = K := by rfl) : IxR X (rIx K) := by subst hK; exact ix_seq
theorem wi_list {tg l : Expr} {tl : TE} {K : PySem.W.Frag} (hl : PE X l tl) (hK : X.K = K := by rfl) : PI X tg l (iList K tl) := by subst hK; exact pi_list hl
theorem wi_tup {tg l : Expr} {tl : TE} {K : PySem.W.Frag} (hl : PE X l tl) (hK : X.K = K := by rfl) : PI X tg l (iTup K tl) := by subst hK; exact pi_tup hl
theorem wc_all {K : PySem.W.Frag} (hc : X.calm = true) (hK : X.K = K := by rfl) : CallR X (.builtin "all") (rAll K) := by subst hK; exact cr_all hc
theorem wc_int : CallR X (.type "int") rInt := call_int1
theorem wc_len {K : PySem.W.Frag} (hK : X.K = K := by rfl) : CallR X (.builtin "len") (rLenU K) := by subst hK; exact call_len
theorem wc_abs : CallR X (.builtin "abs") rAbs := call_abs
theorem wc_max (hc : X.calm = true) : CallR X (.builtin "max") rMax2 := call_max2 hc
theorem wc_min (hc : X.calm = true) : CallR X (.builtin "min") rMin2 := call_min2 hc
theorem wc_tuple {K : PySem.W.Frag} (hK : X.K = K := by rfl) : CallR X (.type "tuple") (rTupOf K) := by subst hK; exact call_tuple_of
theorem wc_list {K : PySem.W.Frag} (hK : X.K = K := by rfl) : CallR X (.type "list") (rLstOf K) := by subst hK; exact call_list_of
theorem wc_isi {K : PySem.W.Frag} (hK : X.K = K := by rfl) : CallR X (.builtin "isinstance") (rIsU K) := by subst hK; exact call_isi.or call_isiT
def gTupU (K : PySem.W.Frag) (n : Nat) (t : TGs) : TG := fun v σ H Q => gTup K n t v σ H Q ∨ gUnl K n t v σ H Q
theorem wg_tup {es : List Expr} {k : Nat} {t : TGs} {n : Nat} {pos : Pos} {K : PySem.W.Frag} (hc : X.calm = true) (h : PGs X es t) (hn : (assignEach es X.env).length = n := by rfl) (hst : (assignEach es X.env).findIdx? (·.1) = none := by rfl) (hK : X.K = K := by rfl) :
    PG X (.Tuple es k pos) (gTupU K n t) := by
  subst hK
  exact ⟨fun pins s σ H v u Q I r hw => hw.elim (fun hw => (pg_tup hc h hn hst).run pins s σ H v u Q I r hw) (fun hw => (pg_unl hc h hn hst).run pins s σ H v u Q I r hw)⟩
theorem u65 {k : Nat} {A : Around} (r : Room k A) : A.units + 65 < cLine := by have := r.un; omega
end
def tTru (K : PySem.W.Frag) (ta : TE) : TT := fun σ H Q => ta σ H fun x H' => ∃ k, TruV K x H' k ∧ Q k H'
theorem wt_truth {X : Cx} {K : PySem.W.Frag} {a : Expr} {ta : TE} (ha : PE X a ta) (he : ∀ whole, isTrue a X.env whole = (do let v ← whole; standAt a.pos; holding [v] (truthy v))) (hK : X.K = K := by rfl) : PT X a (tTru K ta) := by subst hK; exact pt_truth ha he
/-! one step of a reading -/
section
variable {σ : L2.St} {H : Hp} {Q : VK} {D : Ends} {K : PySem.W.Frag}
theorem seq {t u : TS} (h : t ⟨u D, D.rt, D.bk, D.ct⟩ σ H) : tSeq t u D σ H := h
theorem asg {te : TE} {g : TG} (h : te σ H fun x H1 => g x σ H1 D.nx) : tAsg te g D σ H := h
theorem ret {te : TE} (h : te σ H D.rt) : tRet te D σ H := h
theorem retN (h : D.rt .non H) : tRetN D σ H := h
theorem drop {te : TE} (h : te σ H fun _ H1 => D.nx σ H1) : tDrop te D σ H := h
theorem nxt (h : D.nx σ H) : tNext D σ H := h
theorem ifs {c : TT} {t u : TS} (h : c σ H fun b H1 => if b = true then t D σ H1 else u D σ H1) : tIfS c t u D σ H := h
theorem gname {i : Nat} {v : V} {R : L2.St → Hp → Prop} (h : R (σ.set i (some v)) H) : gName i v σ H R := h
theorem var {i : Nat} {v : V} (e : σ[i]? = some (some v)) (h : Q v H) : tVar i σ H Q := ⟨v, e, h⟩
theorem cst {v : V} (h : Q v H) : tC v σ H Q := h
theorem op {r : R2} {ta tb : TE} (h : ta σ H fun x H1 => tb σ H1 fun y H2 => r x y H2 Q) : tOp r ta tb σ H Q := h
theorem un {r : V → Hp → VK → Prop} {ta : TE} (h : ta σ H fun x H1 => r x H1 Q) : tUn r ta σ H Q := h
theorem tst {t : TE} {R : Bool → Hp → Prop} (h : t σ H fun x H' => ∃ k, x = .bl k ∧ R k H') : tTest t σ H R := h
theorem tb' {t : TE} {R : Bool → Hp → Prop} (h : t σ H fun x H' => ∃ k, x = .bl k ∧ R k H') : tB t σ H R := h
theorem tnot {t : TT} {R : Bool → Hp → Prop} (h : t σ H fun c H1 => R (!c) H1) : tNot t σ H R := h
theorem tand {t u : TT} {R : Bool → Hp → Prop} (h : t σ H fun c H1 => if c = true then u σ H1 R else R false H1) : tAnd t u σ H R := h
theorem tor {t u : TT} {R : Bool → Hp → Prop} (h : t σ H fun c H1 => if c = true then R true H1 else u σ H1 R) : tOr t u σ H R := h
theorem tandV {ta tb : TE} (h : ta σ H fun x H1 => ∃ c, x = .bl c ∧ if c = true then tb σ H1 Q else Q (.bl false) H1) : tAndV ta tb σ H Q := h
theorem torV {ta tb : TE} (h : ta σ H fun x H1 => ∃ c, x = .bl c ∧ if c = true then Q (.bl true) H1 else tb σ H1 Q) : tOrV ta tb σ H Q := h
theorem tnotV {ta : TE} (h : ta σ H fun x H1 => ∃ c, x = .bl c ∧ Q (.bl (!c)) H1) : tNotV ta σ H Q := h
theorem tif {t : TT} {ta tb : TE} (h : t σ H fun c H1 => if c = true then ta σ H1 Q else tb σ H1 Q) : tIf t ta tb σ H Q := h
theorem tchain {r r' : R2} {ta tb tc : TE} (h : ta σ H fun x H1 => tb σ H1 fun y H2 => r x y H2 fun z H3 => ∃ k, z = .bl k ∧ (if k = true then tc σ H3 fun w' H4 => r' y w' H4 Q else Q (.bl false) H3)) : tChain r r' ta tb tc σ H Q := h
theorem cb {r : List V → Hp → VK → Prop} {t : TA} (h : t σ H fun vs H1 => r vs H1 Q) : tCB r t σ H Q := h
theorem call {sp : Sp} {dvs : List V} {E : XK} {t : TA} (h : t σ H fun vs H1 => sp (vs ++ dvs) H1 Q E) : tCall sp dvs E t σ H Q := h
theorem cons {ta : TE} {tr : TA} {R : List V → Hp → Prop} (h : ta σ H fun x H1 => tr σ H1 fun xs H2 => R (x :: xs) H2) : tCons ta tr σ H R := h
theorem nil {R : List V → Hp → Prop} (h : R [] H) : tNil σ H R := h
theorem sl {r : V → Option Int → Option Int → Hp → VK → Prop} {te : TE} {tl th : TO} (h : te σ H fun x H1 => tl σ H1 fun l H2 => th σ H2 fun u H3 => r x l u H3 Q) : tSl r te tl th σ H Q := h
theorem nopart {R : Option Int → Hp → Prop} (h : R none H) : tNoPart σ H R := h
theorem part {te : TE} {R : Option Int → Hp → Prop} (h : te σ H fun x H1 => ∃ i, x = .int i ∧ R (some i) H1) : tPart te σ H R := h
theorem gsub {to ti : TE} {t : TSet} {v : V} {R : L2.St → Hp → Prop} (h : to σ H fun o H1 => ti σ H1 fun i H2 => t o i v H2 fun H3 => R σ H3) : gSub to ti t v σ H R := h
theorem lst {t : TA} (h : t σ H fun xs H1 => xs.length ≤ sizeLine ∧ ∀ p, H1 p = none → Q (.ref p) (upd H1 p (.lst xs))) : tLst t σ H Q := h
theorem tup {t : TA} (h : t σ H fun xs H1 => xs.length ≤ sizeLine ∧ ∀ p, H1 p = none → Q (.ref p) (upd H1 p (.tup xs))) : tTup t σ H Q := h
theorem szl {xs : List V} {P : Prop} (h : xs.length ≤ 1000) (q : P) : xs.length ≤ sizeLine ∧ P := ⟨Nat.le_of_lt (small1000 h), q⟩
theorem ei {i : Int} {R : Int → Prop} (h : R i) : ∃ j, V.int i = V.int j ∧ R j := ⟨i, rfl, h⟩
theorem eb {k : Bool} {R : Bool → Prop} (h : R k) : ∃ c, V.bl k = V.bl c ∧ R c := ⟨k, rfl, h⟩
/-! operators by values -/
theorem i0 {g : Int → Int → V} {i j : Int} (h : Q (g i j) H) : rI0 g (.int i) (.int j) H Q := ⟨i, j, rfl, rfl, h⟩
theorem ltI {i j : Int} (h : Q (.bl (decide (i < j))) H) : rLt (.int i) (.int j) H Q := .inl ⟨i, j, rfl, rfl, h⟩
theorem ltS {i j : Str} (h : Q (.bl (decide (i.cps.toList < j.cps.toList))) H) : rLt (.str i) (.str j) H Q := .inr ⟨i, j, rfl, rfl, h⟩
theorem leI {i j : Int} (h : Q (.bl (decide (i ≤ j))) H) : rLe K (.int i) (.int j) H Q := .inl ⟨i, j, rfl, rfl, h⟩
theorem leS {i j : Str} (h : Q (.bl (!decide (j.cps.toList < i.cps.toList))) H) : rLe K (.str i) (.str j) H Q := .inr (.inl ⟨i, j, rfl, rfl, h⟩)
theorem leD {x y : V} (h : rLeD K x y H Q) : rLe K x y H Q := .inr (.inr h)
theorem inSg {c : Nat} {z : Str} (h : Q (.bl (decide (c ∈ z.cps.toList))) H) : rInU K (.str ⟨#[c]⟩) (.str z) H Q := .inl ⟨c, z, rfl, rfl, h⟩
theorem allL {a : Addr} {bs : List Bool} (s : SqL K H a (bs.map V.bl)) (h : Q (.bl (bs.all id)) H) : rAll K [.ref a] H Q := ⟨a, bs, rfl, s, h⟩
theorem gtI {i j : Int} (h : Q (.bl (decide (j < i))) H) : rGt (.int i) (.int j) H Q := ⟨i, j, rfl, rfl, h⟩
theorem geI {i j : Int} (h : Q (.bl (decide (j ≤ i))) H) : rGe (.int i) (.int j) H Q := ⟨i, j, rfl, rfl, h⟩
theorem eqI {i j : Int} (h : Q (.bl (decide (i = j))) H) : rEqU K (.int i) (.int j) H Q := .inl ⟨rfl, by
  have e : decide (V.int i = V.int j) = decide (i = j) := decide_eq_decide.mpr ⟨fun z => V.int.inj z, fun z => by rw [z]⟩
  rw [e]; exact h⟩
theorem neI {i j : Int} (h : Q (.bl (!decide (i = j))) H) : rNeU K (.int i) (.int j) H Q := .inl ⟨rfl, by
  have e : decide (V.int i = V.int j) = decide (i = j) := decide_eq_decide.mpr ⟨fun z => V.int.inj z, fun z => by rw [z]⟩
  rw [e]; exact h⟩
theorem eqS {i j : Str} (h : Q (.bl (decide (i = j))) H) : rEqU K (.str i) (.str j) H Q := .inl ⟨rfl, by
  have e : decide (V.str i = V.str j) = decide (i = j) := decide_eq_decide.mpr ⟨fun z => V.str.inj z, fun z => by rw [z]⟩
  rw [e]; exact h⟩
theorem neS {i j : Str} (h : Q (.bl (!decide (i = j))) H) : rNeU K (.str i) (.str j) H Q := .inl ⟨rfl, by
  have e : decide (V.str i = V.str j) = decide (i = j) := decide_eq_decide.mpr ⟨fun z => V.str.inj z, fun z => by rw [z]⟩
  rw [e]; exact h⟩
theorem addI {i j : Int} (h : Q (.int (i + j)) H) : rAddU K (.int i) (.int j) H Q := .inl ⟨i, j, rfl, rfl, h⟩
theorem addS {i j : Str} (z : i.length + j.length ≤ sizeLine) (h : Q (.str (i ++ j)) H) : rAddU K (.str i) (.str j) H Q := .inr (.inl ⟨i, j, rfl, rfl, z, h⟩)
theorem addT {x y : V} (h : rCatA K x y H Q) : rAddU K x y H Q := .inr (.inr (.inl h))
theorem addL {x y : V} (h : rCat x y H Q) : rAddU K x y H Q := .inr (.inr (.inr h))
theorem fm {i j : Int} (h : 0 < j) : 0 ≤ i.fmod j ∧ i.fmod j < j := ⟨Int.fmod_nonneg_of_pos i h, Int.fmod_lt_of_pos i h⟩
theorem mulM {x n j : Int} (h : 0 < n) (h2 : n < 2 ^ 64) (q : Q (.int (x.fmod n * j)) H) : rMulU (.int (x.fmod n)) (.int j) H Q :=
  .inl ⟨_, _, rfl, rfl, .inl ⟨by have := (fm (i := x) h).1; omega, by have := (fm (i := x) h).2; omega⟩, q⟩
theorem mulL {i j : Int} (h : -(2 ^ 64) < i ∧ i < 2 ^ 64) (q : Q (.int (i * j)) H) : rMulU (.int i) (.int j) H Q := .inl ⟨_, _, rfl, rfl, .inl h, q⟩
theorem mulR {i j : Int} (h : -(2 ^ 64) < j ∧ j < 2 ^ 64) (q : Q (.int (i * j)) H) : rMulU (.int i) (.int j) H Q := .inl ⟨_, _, rfl, rfl, .inr h, q⟩
theorem modP {i j : Int} {g : Int → Int → V} (h : j ≠ 0) (q : Q (g i j) H) : rI (fun _ j => j ≠ 0) g (.int i) (.int j) H Q := ⟨i, j, rfl, rfl, h, q⟩
theorem divN {i j : Int} {g : Int → Int → V} (h : j ≠ 0) (h2 : j.natAbs < 1073741824) (q : Q (g i j) H) : rI CDivN g (.int i) (.int j) H Q := ⟨i, j, rfl, rfl, ⟨h, h2⟩, q⟩
theorem powS {i j : Int} {g : Int → Int → V} (h : 0 ≤ j ∧ j ≤ 1000000 ∧ i.natAbs < 2 ^ 64) (q : Q (g i j) H) : rI CPow g (.int i) (.int j) H Q := ⟨i, j, rfl, rfl, h, q⟩
theorem shr {i j : Int} {g : Int → Int → V} (h : 0 ≤ j) (q : Q (g i j) H) : rI (fun _ j => 0 ≤ j) g (.int i) (.int j) H Q := ⟨i, j, rfl, rfl, h, q⟩
theorem shl {i j : Int} {g : Int → Int → V} (h : CShl i j) (q : Q (g i j) H) : rI CShl g (.int i) (.int j) H Q := ⟨i, j, rfl, rfl, h, q⟩
theorem int1 {i : Int} (h : Q (.int i) H) : rInt [.int i] H Q := .inl ⟨i, rfl, h⟩
theorem ixl {p : Addr} {xs : List V} {i : Int} {v : V} (s : SqL K H p xs) (e : atI xs i = some v) (h : Q v H) : rIx K (.ref p) (.int i) H Q := .inl ⟨p, xs, i, v, rfl, rfl, s, e, h⟩
theorem ixt {p : Addr} {xs : List V} {i : Int} {v : V} (s : SqT K H p xs) (e : atI xs i = some v) (h : Q v H) : rIx K (.ref p) (.int i) H Q := .inr (.inl ⟨p, xs, i, v, rfl, rfl, s, e, h⟩)
theorem ixs {z : Str} {i : Int} {c : Nat} (s : z.length ≤ sizeLine) (e : atI z.cps.toList i = some c) (h : Q (.str ⟨#[c]⟩) H) : rIx K (.str z) (.int i) H Q := .inr (.inr ⟨z, i, c, rfl, rfl, s, e, h⟩)
theorem setl {p : Addr} {xs : List V} {k : Int} {j : Nat} {v : V} {R : Hp → Prop} (e : H p = some (.lst xs)) (hj : ixN xs.length k = some j) (h : R (upd H p (.lst (xs.set j v)))) : rSetL (.ref p) (.int k) v H R := ⟨p, xs, k, j, rfl, rfl, e, hj, h⟩
theorem sll {p : Addr} {xs : List V} {lo hi : Option Int} (s : SqL K H p xs) (h : ∀ q, H q = none → Q (.ref q) (upd H q (.lst (cutV xs lo hi)))) : rSlU K (.ref p) lo hi H Q := .inl ⟨p, xs, rfl, s, h⟩
theorem lenL {p : Addr} {xs : List V} (s : SqL K H p xs) (h : Q (.int xs.length) H) : rLenU K [.ref p] H Q := ⟨_, _, rfl, .inl ⟨_, s, rfl⟩, h⟩
theorem lenT {p : Addr} {xs : List V} (s : SqT K H p xs) (h : Q (.int xs.length) H) : rLenU K [.ref p] H Q := ⟨_, _, rfl, .inr ⟨_, s, rfl⟩, h⟩
theorem lenS {z : Str} (s : z.length ≤ sizeLine) (h : Q (.int z.length) H) : rLenU K [.str z] H Q := ⟨_, _, rfl, ⟨s, rfl⟩, h⟩
theorem abs {i : Int} (h : Q (.int (if i < 0 then -i else i)) H) : rAbs [.int i] H Q := ⟨i, rfl, h⟩
theorem max2 {i j : Int} (h : Q (.int (if j > i then j else i)) H) : rMax2 [.int i, .int j] H Q := ⟨i, j, rfl, h⟩
theorem min2 {i j : Int} (h : Q (.int (if j < i then j else i)) H) : rMin2 [.int i, .int j] H Q := ⟨i, j, rfl, h⟩
theorem tupL {p : Addr} {xs : List V} (s : SqL K H p xs) (h : ∀ l, H l = none → Q (.ref l) (upd H l (.tup xs))) : rTupOf K [.ref p] H Q := ⟨p, xs, rfl, .inl ⟨s, h⟩⟩
theorem tupT {p : Addr} {xs : List V} (s : SqT K H p xs) (h : Q (.ref p) H) : rTupOf K [.ref p] H Q := ⟨p, xs, rfl, .inr ⟨s, h⟩⟩
theorem lstL {p : Addr} {xs : List V} (s : SqL K H p xs) (h : ∀ l, H l = none → Q (.ref l) (upd H l (.lst xs))) : rLstOf K [.ref p] H Q := ⟨p, xs, rfl, .inl s, h⟩
theorem lstT {p : Addr} {xs : List V} (s : SqT K H p xs) (h : ∀ l, H l = none → Q (.ref l) (upd H l (.lst xs))) : rLstOf K [.ref p] H Q := ⟨p, xs, rfl, .inr s, h⟩
theorem itd {p A B : Prop} [Decidable p] (h1 : p → A) (h2 : ¬ p → B) : if decide p = true then A else B := by
  by_cases h : p
  · rw [decide_eq_true h, if_pos rfl]; exact h1 h
  · rw [decide_eq_false h, if_neg Bool.false_ne_true]; exact h2 h
theorem itn {p A B : Prop} [Decidable p] (h1 : ¬ p → A) (h2 : p → B) : if (!decide p) = true then A else B := by
  by_cases h : p
  · rw [decide_eq_true h]; exact iteF (h2 h)
  · rw [decide_eq_false h]; exact iteT (h1 h)
theorem itb {b : Bool} {A B : Prop} (h1 : b = true → A) (h2 : b = false → B) : if b = true then A else B := by
  cases b with
  | true => exact iteT (h1 rfl)
  | false => exact iteF (h2 rfl)
theorem itnb {b : Bool} {A B : Prop} (h1 : b = false → A) (h2 : b = true → B) : if (!b) = true then A else B := by
  cases b with
  | true => exact iteF (h2 rfl)
  | false => exact iteT (h1 rfl)
theorem iteC {c : Prop} [Decidable c] {A B : Prop} (hc : c) (h : A) : if c then A else B := by rw [if_pos hc]; exact h
theorem iteD {c : Prop} [Decidable c] {A B : Prop} (hc : ¬ c) (h : B) : if c then A else B := by rw [if_neg hc]; exact h
/-- cuts: what follows is named, and met once -/
theorem cutS {t : TS} (P : L2.St → Hp → Prop) (h : ∀ nx : L2.St → Hp → Prop, (∀ σ' H', P σ' H' → nx σ' H') → t ⟨nx, D.rt, D.bk, D.ct⟩ σ H) (hn : ∀ σ' H', P σ' H' → D.nx σ' H') : t D σ H := h D.nx hn
theorem cutQ {t u : TS} (P : L2.St → Hp → Prop) (h : ∀ nx : L2.St → Hp → Prop, (∀ σ' H', P σ' H' → nx σ' H') → t ⟨nx, D.rt, D.bk, D.ct⟩ σ H) (hn : ∀ σ' H', P σ' H' → u D σ' H') : tSeq t u D σ H := h (u D) hn
theorem cutE {t : TE} (P : VK) (h : ∀ R : VK, (∀ v H', P v H' → R v H') → t σ H R) (hn : ∀ v H', P v H' → Q v H') : t σ H Q := h Q hn
theorem cutT {t : TT} {R : Bool → Hp → Prop} (P : Bool → Hp → Prop) (h : ∀ R' : Bool → Hp → Prop, (∀ v H', P v H' → R' v H') → t σ H R') (hn : ∀ v H', P v H' → R v H') : t σ H R := h R hn
/-! walks -/
def FORg (J : It) (g : TG) (tb : TS) (D : Ends) (σ : L2.St) (H1 : Hp) : Prop := ∃ W : Nat → Nat → L2.St → Hp → Prop, (∃ m, W 0 m σ H1) ∧ ∀ i m σ H, W i m σ H →
  (J.stop i H ∧ D.nx σ H) ∨ (J.go i H ∧ ∃ N : L2.St → Hp → Prop, (∀ σ' H', N σ' H' → ∃ m', m' < m ∧ W (i + 1) m' σ' H') ∧ ∀ x H', J.yld i H x H' → g x σ H' fun σ2 H2 => tb { D with nx := N, ct := N, bk := D.nx } σ2 H2)
def LCg (J : It) (g : TG) (tt : TT) (te : TE) (vs : List Nat) (σ : L2.St) (Q : VK) (H1 : Hp) (D : Addr) : Prop := ∃ W : Nat → Nat → Hp → Prop, (∃ m, W 0 m (upd H1 D (.lst []))) ∧ ∀ i m H, W i m H →
  (J.stop i H ∧ Q (.ref D) H) ∨ (J.go i H ∧ ∃ Nx : Hp → Prop, (∀ H', Nx H' → ∃ m', m' < m ∧ W (i + 1) m' H') ∧ ∀ x H', J.yld i H x H' → g x (wipe σ vs) H' fun σ2 H2 => wipe σ2 vs = wipe σ vs ∧ tt σ2 H2 fun b H3 =>
    if b = true then te σ2 H3 fun y H4 => ∃ acc, H4 D = some (.lst acc) ∧ acc.length < sizeLine ∧ Nx (upd H4 D (.lst (acc ++ [y]))) else Nx H3)
theorem for_ {wi : TI} {g : TG} {tb : TS} (h : wi σ H fun J H1 => FORg J g tb D σ H1) : tFor wi g tb D σ H := h
theorem lc {wi : TI} {g : TG} {tt : TT} {te : TE} {vs : List Nat} (h : wi σ H fun J H1 => ∀ A, H1 A = none → LCg J g tt te vs σ Q H1 A) : tLc wi g tt te vs σ H Q := h
theorem forIt {J : It} {n : Nat} {G : Hp → Prop} {Y : Nat → Hp → V → Hp → Prop} (w : L2.Walk J n G Y) {g : TG} {tb : TS} (Pv : Nat → L2.St → Hp → Prop) (h0 : Pv 0 σ H) (hG : ∀ i σ H, i ≤ n → Pv i σ H → G H)
    (hs : ∀ i x σ H H', i < n → Pv i σ H → Y i H x H' → g x σ H' fun σ2 H2 => tb { D with nx := Pv (i + 1), ct := Pv (i + 1), bk := D.nx } σ2 H2) (hd : ∀ σ H, Pv n σ H → D.nx σ H) : FORg J g tb D σ H := for_it w Pv h0 hG hs hd
theorem lcIt {J : It} {n : Nat} {G : Hp → Prop} {Y : Nat → Hp → V → Hp → Prop} (w : L2.Walk J n G Y) {g : TG} {tt : TT} {te : TE} {vs : List Nat} {A : Addr} (Pv : Nat → Hp → Prop) (h0 : Pv 0 (upd H A (.lst []))) (hG : ∀ i H, i ≤ n → Pv i H → G H)
    (hs : ∀ i x H1 H', i < n → Pv i H1 → Y i H1 x H' → g x (wipe σ vs) H' fun σ2 H2 => wipe σ2 vs = wipe σ vs ∧ tt σ2 H2 fun b H3 =>
      if b = true then te σ2 H3 fun y H4 => ∃ acc, H4 A = some (.lst acc) ∧ acc.length < sizeLine ∧ Pv (i + 1) (upd H4 A (.lst (acc ++ [y]))) else Pv (i + 1) H3) (hd : ∀ H1, Pv n H1 → Q (.ref A) H1) : LCg J g tt te vs σ Q H A := lc_it w Pv h0 hG hs hd
theorem istr {te : TE} {R : It → Hp → Prop} (h : te σ H fun v H1 => ∃ x, v = .str x ∧ R (Its x) H1) : iStr te σ H R := h
theorem ilist {te : TE} {R : It → Hp → Prop} (h : te σ H fun x H1 => ∃ a, x = .ref a ∧ (∃ xs, SqL K H1 a xs) ∧ R (Itl K a) H1) : iList K te σ H R := h
theorem itup {te : TE} {R : It → Hp → Prop} (h : te σ H fun x H1 => ∃ a, x = .ref a ∧ (∃ xs, SqT K H1 a xs) ∧ R (Itt K a) H1) : iTup K te σ H R := h
theorem irng1 {ta : TA} {R : It → Hp → Prop} (h : ta σ H fun vs H1 => ∃ j : Int, vs = [.int j] ∧ -(2 ^ 62) ≤ j ∧ j < 2 ^ 62 ∧ R (Itr 0 j.toNat) H1) : iRng1 ta σ H R := h
theorem gt {n : Nat} {t : TGs} {p : Addr} {xs : List V} {R : L2.St → Hp → Prop} (s : SqT K H p xs) (e : xs.length = n) (h : t xs σ H R) : gTupU K n t (.ref p) σ H R := .inl ⟨p, xs, rfl, s, e, h⟩
theorem gl {n : Nat} {t : TGs} {p : Addr} {xs : List V} {R : L2.St → Hp → Prop} (s : SqL K H p xs) (e : xs.length = n) (h : t xs σ H R) : gTupU K n t (.ref p) σ H R := .inr ⟨p, xs, rfl, s, e, h⟩
theorem gnil {R : L2.St → Hp → Prop} (h : R σ H) : gNil [] σ H R := ⟨rfl, h⟩
theorem gcons {t : TG} {u : TGs} {v : V} {r : List V} {R : L2.St → Hp → Prop} (h : t v σ H fun σ' H' => u r σ' H' R) : gCons t u (v :: r) σ H R := ⟨v, r, rfl, h⟩
theorem tru {ta : TE} {R : Bool → Hp → Prop} (h : ta σ H fun x H' => ∃ k, TruV K x H' k ∧ R k H') : tTru K ta σ H R := h
theorem truL {p : Addr} {xs : List V} {R : Bool → Prop} (s : SqL K H p xs) (h : R (!xs.isEmpty)) : ∃ k, TruV K (.ref p) H k ∧ R k := ⟨_, .inl ⟨xs, s, rfl⟩, h⟩
theorem truT {p : Addr} {xs : List V} {R : Bool → Prop} (s : SqT K H p xs) (h : R (!xs.isEmpty)) : ∃ k, TruV K (.ref p) H k ∧ R k := ⟨_, .inr (.inl ⟨xs, s, rfl⟩), h⟩
theorem u1 {g : Int → V} {i : Int} (h : Q (g i) H) : rU g (.int i) H Q := ⟨i, rfl, h⟩
theorem bm {T : String} {r : V → List V → Hp → VK → Prop} {te : TE} {t : TA} (h : te σ H fun x H1 => tyV K T x H1 ∧ t σ H1 fun vs H2 => r x vs H2 Q) : tBM K T r te t σ H Q := h
theorem tyl {p : Addr} {xs : List V} {P : Prop} (s : H p = some (.lst xs)) (h : P) : tyV K "list" (.ref p) H ∧ P := ⟨.inl ⟨rfl, xs, SqL.of s⟩, h⟩
theorem app {p : Addr} {xs : List V} {y : V} (s : H p = some (.lst xs)) (hl : xs.length < sizeLine) (h : Q .non (upd H p (.lst (xs ++ [y])))) : rAppend (.ref p) [y] H Q := ⟨p, xs, y, rfl, rfl, s, hl, h⟩
theorem wbm {X : Cx} {K : PySem.W.Frag} {T : String} {r : V → List V → Hp → VK → Prop} {e : Expr} {te : TE} {t : TA} (h : PE X e (tBM X.K T r te t)) (hK : X.K = K := by rfl) : PE X e (tBM K T r te t) := by subst hK; exact h
theorem yes {R : Bool → Hp → Prop} (h : R true H) : tYes σ H R := h
theorem es {z : Str} {R : Str → Prop} (h : R z) : ∃ y, V.str z = V.str y ∧ R y := ⟨z, rfl, h⟩
theorem er {p : Addr} {R : Addr → Prop} (h : R p) : ∃ y, V.ref p = V.ref y ∧ R y := ⟨p, rfl, h⟩
theorem wp {σ' : L2.St} {vs : List Nat} {P : Prop} (e : wipe σ' vs = wipe σ vs) (h : P) : wipe σ' vs = wipe σ vs ∧ P := ⟨e, h⟩
theorem rng1 {j : Int} {R : It → Hp → Prop} (h1 : 0 ≤ j) (h2 : j ≤ 1000000) (h : R (Itr 0 j.toNat) H) : ∃ k : Int, [V.int j] = [V.int k] ∧ -(2 ^ 62) ≤ k ∧ k < 2 ^ 62 ∧ R (Itr 0 k.toNat) H := ⟨j, rfl, by omega, by omega, h⟩
theorem same_upd {p : Addr} {o : HO} (h : H p = none) : Same H (upd H p o) := fun b x e => by rw [upd_ne (ne_of_none e h)]; exact e
theorem st {t : TS} {σ' : L2.St} (e : σ = σ') (h : t D σ' H) : t D σ H := by rw [e]; exact h
end
theorem bitsShr {c : Int} {m : Nat} (n : Nat) (h : Builtin.Int.intBits c ≤ m) : Builtin.Int.intBits ((if c < 0 then -c else c) / 2 ^ n) ≤ m := by
  refine PySem.intBits_le_of_natAbs (y := c) ?_ h
  have h1 : (0 : Int) ≤ (if c < 0 then -c else c) := by split <;> omega
  have h2 := Int.ediv_nonneg h1 (two_pow_nn n)
  have h3 := Int.ediv_le_self (2 ^ n) h1
  have h4 : (if c < 0 then -c else c).natAbs = c.natAbs := by split <;> omega
  omega
theorem at_of {xs : List V} {r : Int} (h0 : 0 ≤ r) (h1 : r < xs.length) : ∃ v, v ∈ xs ∧ atI xs r = some v := by
  have hk : r.toNat < xs.length := by omega
  refine ⟨xs[r.toNat], List.getElem_mem hk, ?_⟩
  have q := atI_nat (List.getElem?_eq_getElem hk)
  rw [Int.toNat_of_nonneg h0] at q
  exact q
/-- all but what stands at a is as it was -/
def Keep (a : Addr) (H H' : Hp) : Prop := ∀ b o, b ≠ a → H b = some o → H' b = some o
theorem Keep.upd (a : Addr) (H : Hp) (o : HO) : Keep a H (upd H a o) := fun b u hb e => by rw [upd_ne hb]; exact e
theorem Keep.refl (a : Addr) (H : Hp) : Keep a H H := fun _ _ _ e => e
theorem Keep.trans {a : Addr} {H H1 H2 : Hp} (x : Keep a H H1) (y : Keep a H1 H2) : Keep a H H2 := fun b o hb e => y b o hb (x b o hb e)
theorem Keep.of {a : Addr} {H H' : Hp} (x : Same H H') : Keep a H H' := fun b o _ e => x b o e
/-- the built-ins that the text leaves as they are -/
structure Blt (mg : Str → Option Value) : Prop where
  int : mg "int" = none
  len : mg "len" = none
  range : mg "range" = none
  abs : mg "abs" = none
  max : mg "max" = none
  min : mg "min" = none
  tuple : mg "tuple" = none
  list : mg "list" = none
  str : mg "str" = none
  bool : mg "bool" = none
  sorted : mg "sorted" = none
  repr : mg "repr" = none
  isinstance : mg "isinstance" = none
  enumerate : mg "enumerate" = none
  all : mg "all" = none
/-- a def of the text, as a caller needs it -/
structure Dh (K : PySem.W.Frag) (mg : Str → Option Value) (x : Str) (f : Addr) (fd : FuncData) (ps : List Str) : Prop where
  g : mg x = some (.ref f)
  k : PySem.W.keepIn K (.ref f) = true
  b : Binds K fd ps []
end Wp
set_option Elab.async false
set_option linter.all false
set_option maxRecDepth 100000
namespace Wp
open PySem PySem.Spec PyProof.Rows L2
section
variable {K : PySem.W.Frag} {H H' : Hp}
theorem sameT {a : Addr} {xs : List V} (e : Same H H') (h : SqT K H a xs) : SqT K H' a xs := by
  rcases h with (h | ⟨o, h⟩) | h
  · exact .inl (.inl (e _ _ h))
  · exact .inl (.inr ⟨o, e _ _ h⟩)
  · exact .inr h
mutual
theorem dp_same (s : Same H H') : ∀ (d : PyData) (v : V), Dp K H v d → Dp K H' v d
  | .none, _, h => by cases h; exact .non
  | .bool b, _, h => by cases h; exact .bl b
  | .int i, _, h => by cases h; exact .int i
  | .str x, _, h => by cases h; exact .str x
  | .list ds, _, h => by
    cases h with
    | lst hs ha => exact .lst (s.seq hs) (dps_same s ds _ ha)
  | .tuple ds, _, h => by
    cases h with
    | tup hs ha => exact .tup (sameT s hs) (dps_same s ds _ ha)
  | .dict _, _, h => by cases h
theorem dps_same (s : Same H H') : ∀ (ds : List PyData) (vs : List V), DpAll K H vs ds → DpAll K H' vs ds
  | [], _, h => by cases h; exact .nil
  | d :: ds, _, h => by
    cases h with
    | cons h1 h2 => exact .cons (dp_same s d _ h1) (dps_same s ds _ h2)
end
theorem dps_len : ∀ {vs : List V} {ds : List PyData}, DpAll K H vs ds → vs.length = ds.length
  | _, _, .nil => rfl
  | _, _, .cons _ t => by rw [List.length_cons, List.length_cons, dps_len t]
theorem dps_get : ∀ {vs : List V} {ds : List PyData} {i : Nat} {v : V}, DpAll K H vs ds → vs[i]? = some v → ∃ d, ds[i]? = some d ∧ Dp K H v d
  | _, _, _, _, .nil, e => by simp at e
  | _, _, 0, _, .cons r _, e => by simp at e; subst e; exact ⟨_, rfl, r⟩
  | _, _, i + 1, _, .cons _ t, e => by
    obtain ⟨d, h1, h2⟩ := dps_get (i := i) t (by simpa using e)
    exact ⟨d, by simpa using h1, h2⟩
theorem dps_append : ∀ {vs ws : List V} {ds es : List PyData}, DpAll K H vs ds → DpAll K H ws es → DpAll K H (vs ++ ws) (ds ++ es)
  | _, _, _, _, .nil, h => h
  | _, _, _, _, .cons r t, h => .cons r (dps_append t h)
/-- the name of a thing's type -/
def tyN : PyData → String
  | .none => "NoneType"
  | .bool _ => "bool"
  | .int _ => "int"
  | .str _ => "str"
  | .list _ => "list"
  | .tuple _ => "tuple"
  | .dict _ => "dict"
theorem sql_ty {a : Addr} {xs : List V} (h : SqL K H a xs) : TyX K H (.ref a) (.type "list") := by
  rcases h with (h | ⟨o, h⟩) | ⟨o, its, n, h, c, _⟩
  · exact .base (.lst h)
  · exact .base (.frz h)
  · exact .kList h c
theorem sqt_ty {a : Addr} {xs : List V} (h : SqT K H a xs) : TyX K H (.ref a) (.type "tuple") := by
  rcases h with (h | ⟨o, h⟩) | ⟨o, its, n, h, c, _⟩
  · exact .base (.tup h)
  · exact .fTuple h
  · exact .kTuple h c
theorem dp_ty {v : V} {d : PyData} (h : Dp K H v d) : TyX K H v (.type (tyN d)) := by
  cases h with
  | non => exact .base .non
  | bl b => exact .base (.bl b)
  | int i => exact .base (.int i)
  | str x => exact .base (.str x)
  | lst hs _ => exact sql_ty hs
  | tup hs _ => exact sqt_ty hs
/-- isinstance(x, T) of plain data -/
theorem isi1 {v : V} {d : PyData} {n : String} {b : Bool} {Q : VK} (h : Dp K H v d) (e : kitB (tyN d) n = some b) (q : Q (.bl b) H) : rIsU K [v, .ty n] H Q :=
  .inl ⟨v, .ty n, _, _, b, rfl, .ty n, dp_ty h, kit_ty e, q⟩
theorem isi2 {v : V} {d : PyData} {n m : String} {b c : Bool} {p : Addr} {Q : VK} (h : Dp K H v d) (hp : H p = some (.tup [.ty n, .ty m])) (e : kitB (tyN d) n = some b) (e2 : kitB (tyN d) m = some c) (q : Q (.bl (b || c)) H) : rIsU K [v, .ref p] H Q := by
  refine .inr ⟨v, p, _, _, _, b || c, rfl, hp, .cons (.ty n) (.cons (.ty m) .nil), dp_ty h, ?_, q⟩
  refine kitAny_cons (kit_ty e) (fun hb => kitAny_cons (kit_ty e2) (fun hc => ?_) (fun hc => ?_)) (fun hb => by rw [hb]; rfl)
  · rw [hb, hc]; exact kitAny_nil
  · rw [hb, hc]; rfl
end
theorem kq {d : PyData} {n : String} {b : Bool} (s : String) (hs : tyN d = s) (h : kitB s n = some b) : kitB (tyN d) n = some b := by rw [hs]; exact h
/-! what the forms of things say, over plain data -/
def isWhole : PyData → Bool
  | .int _ => true
  | _ => false
def row : PyData → Option (List PyData)
  | .list xs => some xs
  | .tuple xs => some xs
  | _ => none
def between (lo hi : Int) : PyData → Bool
  | .int i => decide (lo ≤ i) && decide (i ≤ hi)
  | _ => false
def isText (signs : Str) (most : Int) : PyData → Bool
  | .str z => decide ((z.length : Int) ≤ most) && z.cps.toList.all fun c => decide (c ∈ signs.cps.toList)
  | _ => false
mutual
/-- texts in it are not long -/
def sm : PyData → Bool
  | .str z => decide (z.length ≤ 1000)
  | .list xs => smA xs
  | .tuple xs => smA xs
  | _ => true
def smA : List PyData → Bool
  | [] => true
  | x :: xs => sm x && smA xs
end
theorem sm_str {d : PyData} (h : sm d = true) : ∀ z, d = .str z → z.length ≤ 16777216 := fun z e => by
  subst e
  have := of_decide_eq_true (show decide (z.length ≤ 1000) = true from by simpa [sm] using h)
  omega
theorem smA_get : ∀ {xs : List PyData} {i : Nat} {d : PyData}, smA xs = true → xs[i]? = some d → sm d = true
  | [], _, _, _, e => by simp at e
  | x :: xs, 0, d, h, e => by
    simp at e; subst e
    simp only [smA, Bool.and_eq_true] at h
    exact h.1
  | x :: xs, i + 1, d, h, e => by
    simp only [smA, Bool.and_eq_true] at h
    exact smA_get (i := i) h.2 (by simpa using e)
theorem sm_row {d : PyData} {xs : List PyData} (h : sm d = true) (e : row d = some xs) : smA xs = true := by
  cases d with
  | list ys => cases e; simpa [sm] using h
  | tuple ys => cases e; simpa [sm] using h
  | _ => cases e
/-- a row stands as a list or as a tuple -/
theorem dp_row {K : PySem.W.Frag} {H : Hp} {v : V} {d : PyData} {xs : List PyData} (h : Dp K H v d) (e : row d = some xs) : ∃ p vs, v = .ref p ∧ (SqL K H p vs ∨ SqT K H p vs) ∧ DpAll K H vs xs := by
  cases h with
  | lst hs ha => cases e; exact ⟨_, _, rfl, .inl hs, ha⟩
  | tup hs ha => cases e; exact ⟨_, _, rfl, .inr hs, ha⟩
  | _ => cases e
theorem lenU {K : PySem.W.Frag} {H : Hp} {p : Addr} {vs : List V} {Q : VK} (h : SqL K H p vs ∨ SqT K H p vs) (q : Q (.int vs.length) H) : rLenU K [.ref p] H Q := h.elim (fun h => lenL h q) (fun h => lenT h q)
theorem gU {K : PySem.W.Frag} {σ : L2.St} {H : Hp} {n : Nat} {t : TGs} {p : Addr} {xs : List V} {R : L2.St → Hp → Prop} (s : SqL K H p xs ∨ SqT K H p xs) (e : xs.length = n) (h : t xs σ H R) : gTupU K n t (.ref p) σ H R := s.elim (fun s => gl s e h) (fun s => gt s e h)
theorem sqU_same {K : PySem.W.Frag} {H H' : Hp} {p : Addr} {xs : List V} (e : Same H H') (s : SqL K H p xs ∨ SqT K H p xs) : SqL K H' p xs ∨ SqT K H' p xs := s.elim (fun s => .inl (e.seq s)) (fun s => .inr (sameT e s))
mutual
/-- no list in it -/
def noL : PyData → Bool
  | .list _ => false
  | .tuple xs => noLA xs
  | _ => true
def noLA : List PyData → Bool
  | [] => true
  | x :: xs => noL x && noLA xs
end
section
variable {K : PySem.W.Frag} {H H' : Hp} {a : Addr} {us : List V} {o : HO}
theorem sqt_keep {b : Addr} {xs : List V} (h : H a = some (.lst us)) (k : Keep a H H') (s : SqT K H b xs) : SqT K H' b xs := by
  rcases s with (s | ⟨u, s⟩) | s
  · exact .inl (.inl (k _ _ (ne_of s h (by intro z; cases z)) s))
  · exact .inl (.inr ⟨u, k _ _ (ne_of s h (by intro z; cases z)) s⟩)
  · exact .inr s
mutual
theorem dp_keep (h : H a = some (.lst us)) (k : Keep a H H') : ∀ (d : PyData) (v : V), noL d = true → Dp K H v d → Dp K H' v d
  | .none, _, _, q => by cases q; exact .non
  | .bool b, _, _, q => by cases q; exact .bl b
  | .int i, _, _, q => by cases q; exact .int i
  | .str x, _, _, q => by cases q; exact .str x
  | .list ds, _, n, q => by simp [noL] at n
  | .tuple ds, _, n, q => by
    cases q with
    | tup hs ha => exact .tup (sqt_keep h k hs) (dps_keep h k ds _ (by simpa [noL] using n) ha)
  | .dict _, _, _, q => by cases q
theorem dps_keep (h : H a = some (.lst us)) (k : Keep a H H') : ∀ (ds : List PyData) (vs : List V), noLA ds = true → DpAll K H vs ds → DpAll K H' vs ds
  | [], _, _, q => by cases q; exact .nil
  | d :: ds, _, n, q => by
    simp only [noLA, Bool.and_eq_true] at n
    cases q with
    | cons h1 h2 => exact .cons (dp_keep h k d _ n.1 h1) (dps_keep h k ds _ n.2 h2)
end
theorem dp_upd (h : H a = some (.lst us)) (d : PyData) (v : V) (n : noL d = true) (q : Dp K H v d) : Dp K (upd H a o) v d := dp_keep h (Keep.upd a H o) d v n q
theorem dps_upd (h : H a = some (.lst us)) (ds : List PyData) (vs : List V) (n : noLA ds = true) (q : DpAll K H vs ds) : DpAll K (upd H a o) vs ds := dps_keep h (Keep.upd a H o) ds vs n q
end
theorem noLA_append {xs ys : List PyData} (h : noLA xs = true) (h2 : noLA ys = true) : noLA (xs ++ ys) = true := by
  induction xs with
  | nil => exact h2
  | cons x xs ih =>
    simp only [noLA, Bool.and_eq_true, List.cons_append] at h ⊢
    exact ⟨h.1, ih h.2⟩
theorem dps_last {K : PySem.W.Frag} {H : Hp} {us : List V} {L : List PyData} {t : PyData} (h : DpAll K H us L) (e : L.getLast? = some t) : ∃ us0 v, us = us0 ++ [v] ∧ Dp K H v t := by
  have hl := dps_len h
  rcases List.eq_nil_or_concat us with z | ⟨us0, v, z⟩
  · subst z
    cases h
    cases e
  · rw [List.concat_eq_append] at z
    subst z
    refine ⟨us0, v, rfl, ?_⟩
    have hv : (us0 ++ [v])[us0.length]? = some v := by simp
    obtain ⟨d, h1, h2⟩ := dps_get h hv
    have : L.getLast? = L[us0.length]? := by
      rw [List.getLast?_eq_getElem?]
      congr 1
      simp at hl; omega
    rw [this, h1] at e
    cases e
    exact h2
theorem tupU {K : PySem.W.Frag} {H : Hp} {p : Addr} {vs : List V} {Q : VK} (s : SqL K H p vs ∨ SqT K H p vs) (h : ∀ t H3, Same H H3 → SqT K H3 t vs → Q (.ref t) H3) : rTupOf K [.ref p] H Q := by
  rcases s with s | s
  · exact tupL s fun l hl => h l _ (same_upd hl) (SqT.of upd_same)
  · exact tupT s (h p H (Same.refl _) s)
/-- a triple of a state, a sign or nothing, a state -/
abbrev tri (p : Int) (x : Str) (q : Int) : PyData := .tuple [.int p, .str x, .int q]
theorem tri_alike {p q p' q' : Int} {x x' : Str} : PySem.W.alike (tri p x q) (tri p' x' q') = true := by
  simp only [PySem.W.alike, PySem.W.alikeAll]; rfl
theorem tri_depth {p q : Int} {x : Str} : (tri p x q).depth ≤ 60 := by
  simp [PyData.depth, PyData.depthAll]
end Wp
set_option Elab.async false
set_option linter.all false
set_option maxRecDepth 100000
namespace Wp
open PySem PySem.Spec PyProof.Rows L2
/-- an own error class with one field, as its raiser needs it -/
structure ExT (K : PySem.W.Frag) (mg : Str → Option Value) (x : Str) (C fI : Addr) (fld : Str) : Prop where
  O : OexC K C
  g : mg x = some (.ref C)
  iC : PySem.W.findIn K (.ref C) "__init__" = some (some (.ref fI))
  tI : PySem.W.typeIn K (.ref fI) = some (.type "function")
  no : PySem.W.findIn K (.ref C) fld = some none
def spInit (K : PySem.W.Frag) (fld : Str) : Sp := fun vs H Q _ => ∃ (a C : Addr) (y : V), vs = [.ref a, y] ∧ OexC K C ∧ PySem.W.findIn K (.ref C) fld = some none ∧ H a = some (exo a C none) ∧
  ∀ dx, H dx = none → dx ≠ a → Q .non (upd (upd H dx (exd dx [(fld, y)])) a (exo a C (some dx)))
def MkI (C : Addr) (sp : Sp) (dvs : List V) (Q : XK) (vs : List V) (H1 : Hp) : Prop := vs.length ≤ 1000 ∧ ∀ a, H1 a = none → sp (.ref a :: (vs ++ dvs)) (upd H1 a (exo a C none))
  (fun v H2 => v = .non ∧ ∃ (d : Addr) (fs : List (Str × V)), H2 a = some (exo a C (some d)) ∧ H2 d = some (exd d fs) ∧ H1 d = none ∧ Q (.ref C) (some d) (upd (del H2 a) d (.xd fs))) (fun _ _ _ => False)
theorem mko {C : Addr} {sp : Sp} {dvs : List V} {ta : TA} {σ : L2.St} {H : Hp} {Q : XK} (h : ta σ H fun vs H1 => MkI C sp dvs Q vs H1) : tMkO C sp dvs ta σ H Q := h
theorem mki {K : PySem.W.Frag} {mg : Str → Option Value} {x : Str} {C fI : Addr} {fld : Str} {Q : XK} {y : V} {H1 : Hp} (T : ExT K mg x C fI fld)
    (h : ∀ d H', H1 d = none → Same H1 H' → H' d = some (.xd [(fld, y)]) → Q (.ref C) (some d) H') : MkI C (spInit K fld) [] Q [y] H1 := by
  refine ⟨(by decide : 1 ≤ 1000), fun a ha => ⟨a, C, y, rfl, T.O, T.no, upd_same, fun dx hdx hne => ⟨rfl, dx, [(fld, y)], upd_same, ?_, ?_, ?_⟩⟩⟩
  · rw [upd_ne hne, upd_same]
  · rw [upd_ne hne] at hdx
    exact hdx
  · refine h dx _ (by rw [upd_ne hne] at hdx; exact hdx) (fun b o e => ?_) upd_same
    have hba : b ≠ a := ne_of_none e ha
    have hbd : b ≠ dx := ne_of_none (show (upd H1 a (exo a C none)) b = some o by rw [upd_ne hba]; exact e) hdx
    rw [upd_ne hbd, del_ne hba, upd_ne hba, upd_ne hbd, upd_ne hba]
    exact e
end Wp
set_option Elab.async false
set_option linter.all false
set_option maxRecDepth 100000
set_option maxHeartbeats 1000000
/-! enumerate over a tuple: its making, its turns, its walk -/
namespace Wp
open PySem PySem.Spec PyProof.Rows L2
/-- what stands behind enumerate(v): the iterator over v, then the enumerate object -/
abbrev enHeap (h : Heap) (o : Obj) : Heap := (h.push o).push { cls := .type "enumerate", data := .fields #[.none, .bool false, .ref h.objs.size, rawInt 0, .none, .none] }
theorem en_new {v : Value} {o : Obj} {G : Heap → Prop} (B : Begins v o G) :
    Meets (Builtin.«enumerate.__new__» ⟨[.type "enumerate", v], []⟩) (fun _ R s => G s.heap ∧ R (.ok (.ret (.ref (s.heap.push o).objs.size))) { s with heap := enHeap s.heap o }) := by
  refine .of_wp fun prog w A R s h => ?_
  obtain ⟨hp, g, d, tk, os⟩ := s; obtain ⟨hg, h⟩ := h; have hsub := sub_enumerate
  have qi : ∀ {A' : Around} {E : Value → Shared → Prop} {Q : Value → Shared → Prop}, Q (.ref hp.objs.size) ⟨hp.push o, g, d, tk, os⟩ → wpAny (model prog w) A' (pyIter v) Q E ⟨hp, g, d, tk, os⟩ := fun {A' E Q} q => B.iter prog w A' E ⟨hp, g, d, tk, os⟩ Q hg q
  wp_walk using qi; refine wpAny_stack_any fun st => wpAny_pure ?_
  split
  · rename_i c _ _ _ _ _
    cases (c == Value.type "enumerate") <;> (wp_walk using qi; exact ⟨_, rfl, h⟩)
  · wp_walk using qi; exact ⟨_, rfl, h⟩
section
variable {prog : Program} {w : World} {A : Around} {E : Value → Shared → Prop} {s : Shared}
theorem en_call {v : Value} {o : Obj} {G : Heap → Prop} {Q : Value → Shared → Prop} (B : Begins v o G) (hg : G s.heap)
    (h : ∀ h', IsEnum h' (s.heap.objs.size + 1) s.heap.objs.size 0 .none → h'.get? s.heap.objs.size = some o → (∀ b u, s.heap.get? b = some u → h'.get? b = some u) → Q (.ref (s.heap.objs.size + 1)) { s with heap := h' }) :
    wpAny (model prog w) A (PySem.call (.type "enumerate") [v]) Q E s := by
  have hz : (s.heap.push o).objs.size = s.heap.objs.size + 1 := Heap.size_push ..
  have he : IsEnum (enHeap s.heap o) (s.heap.objs.size + 1) s.heap.objs.size 0 .none := by
    have q := Heap.get?_push_size (s.heap.push o) (o := { cls := .type "enumerate", data := .fields #[.none, .bool false, .ref s.heap.objs.size, rawInt 0, .none, .none] }) rfl
    rw [hz] at q; exact q
  refine callType_new F.called_enumerate (by decide) (F.typeCall_enumerate_1 v) (F.newCall_enumerate_1 v) (fun obj => F.args_object_init_2 obj v) F.entry_enumerate_new (en_new B) ⟨hg, ?_⟩
  rw [hz]
  exact ⟨⟨_, he, rfl⟩, h _ he (Heap.get?_push_of_some _ (Heap.get?_push_size _ B.free)) fun b u x => Heap.get?_push_of_some _ (Heap.get?_push_of_some _ x)⟩
end
def IteT (K : PySem.W.Frag) (a : Addr) : It :=
  ⟨fun i H => ∃ (xs : List V) (x : V), SqT K H a xs ∧ xs[i]? = some x,
   fun i H v H' => ∃ T x, v = .ref T ∧ H T = none ∧ H' = upd H T (.tup [.int (i : Nat), x]) ∧ ∀ xs, SqT K H a xs → xs[i]? = some x,
   fun i H => ∃ xs : List V, SqT K H a xs ∧ xs.length ≤ i⟩
theorem turn_enT {P : Program} {w : World} {K : PySem.W.Frag} {elts : List Expr} {kk : Nat} {tpos : Pos} (a e it : Addr) :
    Turn P w K (.Tuple elts kk tpos) (IteT K a) [e, it] e (fun i h => (∃ old, IsEnum h e it ((i : Nat) : Int) old) ∧ h.IsTupleIter it a i ∧ e ≠ it) where
  mem := List.mem_cons_self
  obj := fun i h st b hb => by
    obtain ⟨⟨old, he⟩, ⟨o, ho, _, hd⟩, _⟩ := st
    rcases List.mem_cons.mp hb with z | z
    · rw [z]; exact ⟨_, he, fun v q => nomatch q⟩
    · rw [List.mem_singleton.mp z]; exact ⟨o, ho, fun v q => by rw [hd] at q; cases q⟩
  keep := fun i h h' st k => ⟨⟨_, k e (by simp) _ st.1.choose_spec⟩, st.2.1.at fun o q => k it (by simp) o q, st.2.2⟩
  item := by
    rintro X rfl rfl rfl hc i pins s σ H E I hf ⟨⟨old, he⟩, hit, hne⟩ ⟨xs, x, hq, hx⟩
    obtain ⟨its, rv, p, hz⟩ := I.tuple hq
    obtain ⟨u, hu, ru⟩ := rv.get hx
    have hel : e < s.heap.objs.size := Heap.lt_size he
    have hil : it < s.heap.objs.size := hit.elim fun o q => Heap.lt_size q.1
    have hae : a ≠ e := fun z => by obtain ⟨o, ho, hcl, _⟩ := p; rw [z, he] at ho; cases ho; exact absurd (Value.type.inj hcl) (by decide)
    have hai : a ≠ it := fun z => by
      obtain ⟨o, ho, hcl, _⟩ := p; obtain ⟨o2, ho2, hcl2, _⟩ := hit
      rw [z, ho2] at ho; cases ho; rw [hcl] at hcl2; exact absurd (Value.type.inj hcl2) (by decide)
    have Dr : Draws X.prog X.w X.A.in1 it [it, a] its.toArray.size (fun i v => its.toArray[i]? = some v) (fun i h => h.IsTupleIter it a i ∧ h.IsTuple a its.toArray) := Draws.tuple (A := X.A.in1) (show X.A.in1.handled = none from I.ok.hd hc) it a hai its.toArray
    have hlt : i < its.toArray.size := by
      have := (List.getElem?_eq_some_iff.mp hu).1
      rw [List.size_toArray]; exact this
    refine wpAny_pyNext_enum_itemD Dr he ⟨hit, p⟩ hlt hne (by simp [hne, Ne.symm hae]) fun x' h' tk hp ho hst hT hsz hk => ?_
    have hxx : x' = u := Option.some.inj (hp.symm.trans (by simpa using hu))
    subst hxx
    refine ⟨_, rfl, wpAny_letOwnedTupleGo_enum (s := { s with heap := h', toks := tk + 1 }) ho fun h'' he' sb => ?_⟩
    have hT2 : h''.get? s.heap.objs.size = some { cls := .type "tuple", data := .seq #[.int i tk, x'] } := (sb.2 _ (Nat.ne_of_gt hel)).trans hT
    have new : ObjOk X.prog X.w (upd H s.heap.objs.size (.tup [.int (i : Nat), x])) h'' s.heap.objs.size (.tup [.int (i : Nat), x]) := ⟨(by decide : 2 ≤ sizeLine), [.int i tk, x'], .cons ⟨_, rfl⟩ (.cons ru .nil), ⟨_, hT2, rfl, _, rfl⟩⟩
    have I1 : Inv X pins σ (upd H s.heap.objs.size (.tup [.int (i : Nat), x])) { s with heap := h'', toks := tk + 1 } := by
      refine I.turnedNew (ch := [e, it]) (fun b ob hb q => ?_) hf (Nat.le_refl _) new
      have h1 : b ≠ e := fun z => hb (by simp [z])
      have h2 : b ≠ it := fun z => hb (by simp [z])
      exact (sb.2 b h1).trans (hk b ob h1 h2 q)
    refine ⟨.ref s.heap.objs.size, _, I1, rfl, ⟨_, x, rfl, I.hok.fresh (Nat.le_refl _), rfl, fun ys hy => by rw [I.tuple_inj hy hq]; exact hx⟩, ⟨⟨x', ?_⟩, hst.1.at fun o q => (sb.2 it (Ne.symm hne)).trans q, hne⟩, fun b hb => ?_⟩
    · rw [show ((i + 1 : Nat) : Int) = (i : Int) + 1 by omega]; exact he'
    · have hb' : b < s.heap.objs.size := by
        rcases List.mem_cons.mp hb with z | z
        · rw [z]; exact hel
        · rw [List.mem_singleton.mp z]; exact hil
      rw [upd_ne (Nat.ne_of_lt hb')]; exact (hf b hb).1
  done := by
    rintro X rfl rfl rfl hc i pins s σ H E I hf ⟨⟨old, he⟩, hit, hne⟩ ⟨xs, hq, hx⟩
    obtain ⟨its, rv, p, hz⟩ := I.tuple hq
    obtain ⟨f0, f1, f2, f3, f4, f5⟩ := hf it (by simp)
    have hl := rv.length
    have hT : s.TypeIs (.ref e) "enumerate" := ⟨_, he, rfl⟩
    unfold pyNext
    refine wpAny_bind (wpAny_attempt (wpAny_callSpecial?_slot (name := Str.ofString "__next__") hT F.slot_enumerate_next (wpAny_call_entry F.slot_enumerate_next hT F.entry_enumerate_next ?_ (F.args_enumerate_next_1 _))))
    refine (show wpAny _ _ (field (.ref e) 2 >>= _) _ _ _ from wpAny_bind (wpAny_field he rfl (x := .ref it) rfl ?_))
    refine wpAny_bind (wpAny_nextOf_tuple_end (I.ok.hd hc) hit (show s.heap.IsTuple a its.toArray from p) (by simp; omega) fun h' x' eb hx' => ?_)
    obtain ⟨o, ho, hcl⟩ := hx'
    exact wpAny_bind (wpAny_isInstance (T := "StopIteration") (b := true) ⟨o, ho, hcl⟩ isSubtype_stop (wpAny_pure ⟨rfl, I.turned (t' := s.toks) (fun b o hb q => eb b o hb q) f0 f1 f3 f4 f5⟩))
  self := fun A i s Q E st h => wpAny_pyIter_enum st.1.choose_spec h
def iEnumU (K : PySem.W.Frag) (ta : TA) : TI := fun σ H R => ta σ H fun vs H1 => ∃ a xs, vs = [.ref a] ∧ ((SqL K H1 a xs ∧ R (Ite K a) H1) ∨ (SqT K H1 a xs ∧ R (IteT K a) H1))
theorem wi_enum {X : Cx} {e : Expr} {ta : TA} {p pos tpos : Pos} {elts : List Expr} {kk : Nat} {K : PySem.W.Frag} (hg : Gl X "enumerate") (hm : X.mg "enumerate" = none) (ha : PA X [e] ta) (hs : starEach [e] X.env = [(false, eval e X.env)] := by rfl) (hK : X.K = K := by rfl) :
    PI X (.Tuple elts kk tpos) (.Call (.Name "enumerate" p) [e] [] pos) (iEnumU K ta) := by
  subst hK
  refine ⟨fun pins s σ H R I h => ?_⟩
  refine Call_ (ld_blt I hg hm boot_enumerate (PyProof.Rows.callWith_type1 (thn (ha.run pos pins s σ H _ I h) fun us s1 ⟨vs, H1, I1, r1, a, xs, ex, q⟩ => ?_) hs rfl))
  subst ex
  cases r1 with
  | cons r rr =>
    cases rr; cases r
    have new : ∀ {h' : Heap}, (∀ b o, s1.heap.get? b = some o → h'.get? b = some o) → ∀ b ∈ [s1.heap.objs.size + 1, s1.heap.objs.size], FpOk X pins H1 b := fun {h'} _ b hb => by
      have hle : s1.heap.objs.size ≤ b := by
        rcases List.mem_cons.mp hb with z | z
        · omega
        · have := List.mem_singleton.mp z; omega
      exact I1.fpOk hle (I1.hok.fresh hle)
    rcases q with ⟨hq, q⟩ | ⟨hq, q⟩
    · obtain ⟨its, rv, p', hz⟩ := I1.list hq
      refine call_enumerate_list p'.isList fun h' he hit hsz hk => wpAny_pyIter_enum he ?_
      exact ⟨s1.heap.objs.size + 1, [s1.heap.objs.size + 1, s1.heap.objs.size], _, _, H1, rfl, I1.kept (t' := s1.toks) hk, turn_enum a (s1.heap.objs.size + 1) s1.heap.objs.size, ⟨⟨.none, he⟩, hit, Nat.succ_ne_self _⟩, new hk, q⟩
    · obtain ⟨its, rv, p', hz⟩ := I1.tuple hq
      refine en_call (begins_tuple a its.toArray) p' fun h' he ho hk => wpAny_pyIter_enum he ?_
      exact ⟨s1.heap.objs.size + 1, [s1.heap.objs.size + 1, s1.heap.objs.size], _, _, H1, rfl, I1.kept (t' := s1.toks) hk, turn_enT a (s1.heap.objs.size + 1) s1.heap.objs.size, ⟨⟨.none, he⟩, ⟨_, ho, rfl, rfl⟩, Nat.succ_ne_self _⟩, new hk, q⟩
theorem walk_enT {K : PySem.W.Frag} {a : Addr} {xs : List V} : L2.Walk (IteT K a) xs.length (fun H => SqT K H a xs) (YPair (fun i => some (.int (i : Nat))) (fun i => xs[i]?)) :=
  ⟨fun i _ hi q => ⟨xs, xs[i], q, by simp [hi]⟩, fun _ q => ⟨xs, q, Nat.le_refl _⟩, fun i H v H' _ q ⟨T, x, h1, h2, h3, h4⟩ => ⟨T, .int (i : Nat), x, h1, h2, h3, rfl, h4 xs q⟩⟩
/-- the loop over enumerate of a row, list or tuple -/
theorem enumU {K : PySem.W.Frag} {p : Addr} {xs : List V} {σ : L2.St} {H0 H : Hp} {D : Ends} {g : TG} {tb : TS} (s : SqL K H0 p xs ∨ SqT K H0 p xs) (sm : Same H0 H) (Pv : Nat → L2.St → Hp → Prop) (h0 : Pv 0 σ H) (hG : ∀ i σ1 H1, Pv i σ1 H1 → Same H0 H1)
    (hs : ∀ i x σ1 H1 T, xs[i]? = some x → Pv i σ1 H1 → H1 T = none → g (.ref T) σ1 (upd H1 T (.tup [.int (i : Nat), x])) fun σ2 H2 => tb { D with nx := Pv (i + 1), ct := Pv (i + 1), bk := D.nx } σ2 H2)
    (hd : ∀ σ1 H1, Pv xs.length σ1 H1 → D.nx σ1 H1) : (SqL K H p xs ∧ FORg (Ite K p) g tb D σ H) ∨ (SqT K H p xs ∧ FORg (IteT K p) g tb D σ H) := by
  have step : ∀ i v σ1 H1 H', i < xs.length → Pv i σ1 H1 → YPair (fun i => some (.int (i : Nat))) (fun i => xs[i]?) i H1 v H' → g v σ1 H' fun σ2 H2 => tb { D with nx := Pv (i + 1), ct := Pv (i + 1), bk := D.nx } σ2 H2 := by
    rintro i v σ1 H1 H' hi hp ⟨T, x, y, rfl, hT, rfl, hx, hy⟩
    cases hx
    exact hs i y σ1 H1 T hy hp hT
  rcases s with s | s
  · exact .inl ⟨sm.seq s, forIt walk_enum Pv h0 (fun i σ1 H1 _ hp => (hG i σ1 H1 hp).seq s) step hd⟩
  · exact .inr ⟨sameT sm s, forIt walk_enT Pv h0 (fun i σ1 H1 _ hp => sameT (hG i σ1 H1 hp) s) step hd⟩
theorem ienum {K : PySem.W.Frag} {ta : TA} {σ : L2.St} {H : Hp} {R : It → Hp → Prop} (h : ta σ H fun vs H1 => ∃ a xs, vs = [.ref a] ∧ ((SqL K H1 a xs ∧ R (Ite K a) H1) ∨ (SqT K H1 a xs ∧ R (IteT K a) H1))) : iEnumU K ta σ H R := h
end Wp
set_option Elab.async false
set_option linter.all false
set_option maxRecDepth 100000
/-! the law's own def at the place where it is called: there nothing is being shown (guards), so repr of data may be asked -/
namespace Wp
open PySem PySem.Spec PyProof.Rows L2
structure FnTop (P : Program) (w : World) (K : PySem.W.Frag) (mg : Str → Option Value) (base : Heap) (CX : CXT) (f : Addr) (fd : FuncData) (ps : List Str) (sp : Sp) : Prop where
  run : ∀ (s : Shared) (H : Hp) (us : List Value) (vs : List V) (Q : VK) (E : XK), Env0 P w K mg base callerA [] s H → BindsTo s fd ⟨us, []⟩ (ps.zip us) → Vals vs us → sp vs H Q E →
    codeAny (model P w) callerA (.call (.ref f) ⟨us, []⟩) (CR CX [] P w H s Q E) s
theorem top_of {P : Program} {w : World} {K : PySem.W.Frag} {mg : Str → Option Value} {base : Heap} {CX : CXT} {x qual : Str} {st : Stmt} {f : Addr} {fd : FuncData} {N ps : List Str} {k : Nat} {sp : Sp} (F : Fun K x qual st f fd) (S : FnScope N ps (defScope st))
    (len : ∀ vs H Q E, sp vs H Q E → vs.length = ps.length) (hroom : Room (k + 1) callerA)
    (hbody : ∀ (cdv : Value) (s : Shared) (H : Hp) (vs : List V) (Q : VK) (E : XK), Room k (callerA.deeper (envOfC qual (defScope st) s.heap.objs.size f cdv)) → sp vs H Q E →
      ∃ t, PSs (cxOf CX P w K mg base N qual (defScope st) f cdv callerA [] s H E) (defBody st) t ∧ t { nx := fun _ H' => Q .non H', rt := Q } (start N vs) H) : FnTop P w K mg base CX f fd ps sp := by
  obtain ⟨oc, od, kV, doc, pm, an, cdv, ct, osl, rfl, lk, hcd⟩ := F.ex
  refine ⟨fun s H us vs Q E e0 hb r hsp => ?_⟩
  have inHeap : K.In s.heap := e0.mod.kin.keeps fun b o e => (e0.bs b o e).1
  have nolim : s.heap.NoLimit := e0.mod.nolimit.keeps fun b o e => (e0.bs b o e).1
  have kinds : ∀ y ∈ ps.zip us, (defScope st).names.lookup y.1 = some .local ∨ ((defScope st).names.lookup y.1 = some .cell ∧ ((cellsFrom (s.heap.objs.size + 1) (defScope st).names []).lookup y.1).isSome = true) := fun ⟨n, v⟩ hy => (S.par n (List.of_mem_zip hy).1).imp id fun q => ⟨q, PySem.W.cellsFrom_some _ _ _ (.inl q)⟩
  refine codeAny_call_function hroom.depth (inHeap _ _ lk) rfl S.co S.gen rfl (PySem.W.codeRec_of inHeap hcd) (hb _ _ _ _ (wpAny_newFunctionEnv_cells S.kind kinds fun env he s1 q => ?_))
  subst he
  refine ⟨nolim.keeps q.toInCall.keep, codeAny_func ?_⟩
  obtain ⟨t, ht, hq⟩ := hbody cdv s H vs Q E (hroom.deeper _) hsp
  have I0 := inv_start (CX := CX) (E := E) S hroom.hd e0 (len _ _ _ _ hsp) r q
  refine wpAny_mono (ht.run [] s1 (start N vs) H _ I0 hq) (fun fl s' hs => ?_) fun e s' hs => hs
  cases fl with
  | ret u => obtain ⟨v, σ', H', J, rv, z⟩ := hs; exact ⟨v, H', J.os, J.bare, J.base, J.hok, rv, z⟩
  | next => obtain ⟨σ', H', J, z⟩ := hs; exact ⟨V.non, H', J.os, J.bare, J.base, J.hok, rfl, z⟩
  | brk => obtain ⟨_, _, _, z⟩ := hs; exact z.elim
  | cont => obtain ⟨_, _, _, z⟩ := hs; exact z.elim
theorem call_top {P : Program} {w : World} {K : PySem.W.Frag} {mg mb : Str → Option Value} {CX : CXT} {fa a : Addr} {fd : FuncData} {x : Str} {sp : Sp} {s : Shared} {vs : List Value} {ns : List Int} (KX : K.In s.heap) (hns : s.heap.Ns mainGlobals mg) (hb : s.heap.Ns builtinsNs mb)
    (hbb : ∀ x : Str, x ≠ "__name__" → mb x = bootBuiltins x) (hlim : s.heap.NoLimit) (hg : s.gens = #[]) (ha : s.heap.get? a = some { cls := .type "list", data := .seq vs.toArray }) (hi : IntsAre vs ns) (hl : ns.length ≤ sizeLine)
    (F : ∀ base : Heap, K.In base → base.Ns mainGlobals mg → FnTop P w K mg base CX fa fd [x] sp) (hbind : ∀ (s : Shared) (u : Value), BindsTo s fd ⟨[u], []⟩ [(x, u)])
    (hsp : ∀ H : Hp, Only H → SqL K H a (ns.map V.int) → sp [.ref a] H (fun v _ => v = .bl true) fun _ _ _ => False) (hCX : ∀ H e s', CX [] H s (fun _ _ _ => False) e s' → False) :
    codeAny (model P w) callerA (.call (.ref fa) ⟨[.ref a], []⟩) (fun r s' => r = .ok (.ret (.bool true)) ∧ OldK s.heap s'.heap ∧ s'.os = s.os ∧ AllBare s'.gens) s := by
  have rv := vals_ints hi; have lenV := hi.length
  have core : ∀ H : Hp, Only H → SqL K H a (ns.map V.int) → HOk P w H s.heap → (∀ b, H b ≠ none → b = a) → (H a ≠ none → K.lookup a = none) →
      codeAny (model P w) callerA (.call (.ref fa) ⟨[.ref a], []⟩) (fun r s' => r = .ok (.ret (.bool true)) ∧ OldK s.heap s'.heap ∧ s'.os = s.os ∧ AllBare s'.gens) s := by
    intro H hO hS hok hA hK
    have free : ∀ {b : Addr}, b ≠ a → H b = none := fun {b} hb => by
      cases q : H b with
      | none => rfl
      | some u => exact absurd (hA b (by rw [q]; simp)) hb
    have nsK : ∀ {b : Addr} {m : Str → Option Value}, s.heap.Ns b m → (hidT s.heap H).Ns b m := fun {b m} ⟨o, es, ep, e, d, z⟩ => ⟨o, es, ep, hidT_get e (free fun hba => by rw [hba, ha] at e; cases e; have d' : Data.seq vs.toArray _ = Data.dict es ep := d; cases d'), d, z⟩
    have hKb : K.In (hidT s.heap H) := fun b o e => hidT_get (KX b o e) (by
      cases q : H b with
      | none => rfl
      | some u => have hba := hA b (by rw [q]; simp); subst hba; rw [hK (by rw [q]; simp)] at e; cases e)
    have hM : Mod K mg (hidT s.heap H) := ⟨hKb, nsK hns, ⟨mb, nsK hb, hbb⟩, hlim.elim fun mc z => ⟨mc, nsK z.1, z.2⟩⟩
    have e0 : Env0 P w K mg (hidT s.heap H) callerA [] s H := { frames := rfl, mod := hM, bs := fun b o e => of_hidT e, bsz := Nat.le_of_eq (hidT_size _ _), funs := trivial, frf := fun b z => absurd (show b ∈ ([] : List Addr) from z) (by simp), hok := hok, bare := .of_eq hg }
    refine codeAny_mono ((F _ hKb (nsK hns)).run s H [.ref a] [.ref a] _ _ e0 (hbind s (.ref a)) (.cons rfl .nil) (hsp H hO hS)) fun r s' h => ?_
    match r, h with
    | .error e, h => exact (hCX H e s' h).elim
    | .ok (.ret u), ⟨v, H', hos, hbare, hun, hok', hrv, hq⟩ =>
      obtain rfl : v = .bl true := hq
      obtain rfl : u = Value.bool true := hrv
      refine ⟨rfl, OldK.of_keep fun b o e => ?_, hos, hbare⟩
      rcases hO b with z | ⟨ob, xs, z⟩
      · exact hun.keep b o e z (fun y => absurd (show b ∈ ([] : List Addr) from y) (by simp)) (by simp)
      · have e1 := (hok b _ z).1; have e2 := (hok' b _ (hun.frzs b ob _ z)).1
        rw [e] at e1; cases e1; exact e2
  cases hk : K.lookup a with
  | some o =>
    have e := KX a o hk
    rw [ha] at e; cases e
    exact core (fun _ => none) (fun _ => .inl rfl) (.inr ⟨_, vs.toArray, _, hk, rfl, rfl, rfl, by rw [List.size_toArray, lenV]; exact hl, by simpa using rv⟩) (fun b u z => nomatch (show (none : Option HO) = some u from z)) (fun b z => absurd rfl z) fun z => absurd rfl z
  | none =>
    refine core (fun b => if b = a then some (.frz { cls := .type "list", data := .seq vs.toArray } (.lst (ns.map V.int))) else none) (fun b => ?_) (.inl (.inr ⟨_, if_pos rfl⟩)) (fun b u z => ?_) (fun b z => ?_) fun _ => hk
    all_goals by_cases hb : b = a
    · exact .inr ⟨_, _, if_pos hb⟩
    · exact .inl (if_neg hb)
    · have z' := (if_pos hb).symm.trans z; cases z'; subst hb
      exact ⟨ha, by rw [List.length_map]; exact hl, vs, _, rv, ha⟩
    · cases (if_neg hb).symm.trans z
    · exact hb
    · exact absurd (if_neg hb) z
theorem walk_top {l : PySem.W.OpenLaw} {n : Nat} {q : Program} {loose : List Str} {XP : (Str → Option Value) → Heap → Prop} {YP : World → Heap → Prop} {d : DefRec} {K : Params → PySem.W.Frag} {CX : World → CXT} {sp : World → Sp} {x : Str} (hn : l.most = some n) (hn2 : n ≤ sizeLine) (hdf : d.params.defaults = [])
    (hY : ∀ (w : World) (h : Heap), YP w h → (K w.params).In h)
    (F : ∀ (w : World) (mg : Str → Option Value) (fa : Addr) (h : Heap), (K w.params).In h → h.Ns mainGlobals mg → mg d.name = some (.ref fa) → ∃ fd : FuncData, (∀ (s : Shared) (u : Value), BindsTo s fd ⟨[u], []⟩ [(x, u)]) ∧ ∀ base : Heap, (K w.params).In base → base.Ns mainGlobals mg → FnTop l.prog w (K w.params) mg base (CX w) fa fd [x] (sp w))
    (hsp : ∀ (w : World) (H : Hp) (a : Addr) (ns : List Int), ns.length ≤ n → (∀ z ∈ ns, Builtin.Int.intBits z ≤ 1048576) → Only H → SqL (K w.params) H a (ns.map V.int) → sp w [.ref a] H (fun v _ => v = .bl true) fun _ _ _ => False)
    (hCX : ∀ (w : World) (H : Hp) (s : Shared) (e : Value) (s' : Shared), CX w [] H s (fun _ _ _ => False) e s' → False) : PySem.W.WalkO q loose XP YP l.row.toRowW d [] (fun f vs => PySem.call f vs) :=
  Att.attach_callB hn hdf fun w s₀ s₁ mg mb fa o pm cd doc a vs ns G Y ho hd hcd hmg hobj hints hlen hbits hg => by
    have inK := hY w _ Y
    obtain ⟨fd, hb, hF⟩ := F w mg fa _ inK G.T.g hmg
    exact call_top inK G.T.g G.T.b G.T.builtins G.T.nolimit hg hobj hints (Nat.le_trans hlen hn2) hF hb (fun H hO hS => hsp w H a ns hlen hbits hO hS) fun H e s' => hCX w H s₁ e s'
theorem guards_top {env : Env} : (callerA.deeper env).guards = some [] := by first | rfl | decide
end Wp
set_option Elab.async false
set_option linter.all false
set_option maxRecDepth 100000
namespace Wp
open PySem PySem.Spec PyProof.Rows L2
/-- what the class D must say, so that isinstance asks its instances rightly -/
def rIsEd (K : PySem.W.Frag) (D a : Addr) (cls : Value) (d : Option Addr) : List V → Hp → VK → Prop := fun xs H Q => ∃ (c : V) (cv : Value) (b : Bool), xs = [.ref a, c] ∧ cls = .ref D ∧ (∀ u, RelV c u → u = cv) ∧ PySem.W.kitOne K (.ref D) cv = some b ∧ (∃ dd fs, d = some dd ∧ H dd = some (.xd fs)) ∧ Q (.bl b) H
theorem call_isEd {X : Cx} {a D : Addr} {cls : Value} {d : Option Addr} {oe : Obj} {pn : List (Addr × Obj)} {K : PySem.W.Frag} (C : ExcC K D) (hz : Zc cls d oe) (hf : ∃ vs, oe.data = .fields vs) (hK : X.K = K := by rfl) : CallR (X.suite a ((a, oe) :: pn)) (.builtin "isinstance") (rIsEd K D a cls d) := by
  subst hK
  rintro pins s σ H xs us Q I r ⟨c, cv, b, rfl, rfl, hcv, e, ⟨dd, fs, rfl, ed⟩, q⟩
  cases r with
  | cons rx rr =>
  cases rr with
  | cons rt rr =>
  cases rr; cases rx
  have ec := hcv _ rt
  subst ec
  have hget := (I.pin (a, oe) (List.mem_append.mpr (.inl List.mem_cons_self))).1
  obtain ⟨vs, hv⟩ := hf
  have hx : ObjOk X.prog X.w H s.heap dd (.xd fs) := I.hok dd _ ed
  obtain ⟨mA, hns, hr⟩ := hx
  obtain ⟨od, ho, hl⟩ := lookIn_ns hns
  have J : PySem.W.InstAt s.heap a oe D (some od) := ⟨hget, hz.1, by unfold PySem.W.notCls; rw [hv] <;> rfl, by rw [hz.2]; exact ho⟩
  have hcl : (PySem.W.clsIn X.K D).isSome = true := by
    have hh : (PySem.W.clsIn X.K D).any (·.hasDict) = true := C.hd
    cases hq : PySem.W.clsIn X.K D with
    | none => rw [hq] at hh; cases hh
    | some cd => rfl
  exact PySem.W.kia_one (PySem.W.kitx_exc hcl C.hg C.hk C.hs C.ha C.hn C.ht C.hm) I.kIn J e (fun z => nomatch z) fun tk => ⟨.bl b, H, I.kept (t' := tk) fun _ _ z => z, rfl, q⟩
/-- repr of rows of data -/
def rRepr (K : PySem.W.Frag) : List V → Hp → VK → Prop := fun xs H Q => ∃ a d, xs = [.ref a] ∧ Dp K H (.ref a) d ∧ d.showable = true ∧ d.hasDict = false ∧ d.depth ≤ 60 ∧ d.shown.length ≤ sizeLine ∧ Q (.str d.shown) H
theorem wc_repr {X : Cx} {K : PySem.W.Frag} (hg : X.A.guards = some []) (hu : X.A.units + 65 < cLine) (hK : X.K = K := by rfl) : CallR X (.builtin "repr") (rRepr K) := by
  subst hK
  rintro pins s σ H xs us Q I r ⟨a, d, rfl, hd, hs, hnd, hdp, hsz, q⟩
  rw [Vals.ref1 r]
  obtain ⟨as, rd⟩ := Dp.reads I d _ _ hd (show RelV (.ref a) (.ref a) from rfl)
  exact repr_of_reads' rd hs (fun z => by rw [hnd] at z; cases z) hg (by omega) (fun _ _ z => z) (fun h' u tk hk => ⟨.str d.shown, H, I.kept (t' := tk) hk, ⟨_, rfl⟩, q⟩) hsz
/-- sorted of a list of data -/
def rSortD (K : PySem.W.Frag) : List V → Hp → VK → Prop := fun xs H Q => ∃ a vs ds, xs = [.ref a] ∧ SqL K H a vs ∧ DpAll K H vs ds ∧ PySem.W.AllAlike ds ∧ PySem.W.Sortable ds ∧ (∀ d ∈ ds, d.depth ≤ 60) ∧
  ∀ (zs : List (V × PyData)) (p : Addr), zs.Perm (vs.zip ds) → zs = (vs.zip ds).mergeSort (PySem.W.dataLe false Prod.snd) → H p = none → Q (.ref p) (upd H p (.lst (zs.map (·.1))))
theorem wc_sorted {X : Cx} {K : PySem.W.Frag} (hu : X.A.units + 65 < cLine) (hK : X.K = K := by rfl) : CallR X (.builtin "sorted") (rSortD K) := by
  subst hK
  rintro pins s σ H xs us Q I r ⟨a, vs, ds, rfl, hs, hal, hall, hk, hdp, q⟩
  obtain ⟨its, rv, hl, hz⟩ := I.list hs
  rw [Vals.ref1 r]
  have hlen := dps_len hal
  have hsnd : (vs.zip ds).map Prod.snd = ds := List.map_snd_zip (by omega)
  have e1 : ∀ {vs : List V} {its : List Value} {ds : List PyData}, Vals vs its → vs.length = ds.length → PySem.W.EachIs (fun u (b : V × PyData) => RelV b.1 u) its (vs.zip ds) := by
    intro vs its ds rv
    induction rv generalizing ds with
    | nil => intro h; exact .nil
    | cons r _ ih =>
      intro h
      cases ds with
      | nil => cases h
      | cons d ds => exact .cons r (ih (by simpa using h))
  have e2 : ∀ {vs : List V} {its : List Value} {ds : List PyData}, Vals vs its → DpAll X.K H vs ds → PySem.W.EachIs (fun u (b : V × PyData) => ∃ as, Reads s.heap u b.2 as) its (vs.zip ds) := by
    intro vs its ds rv
    induction rv generalizing ds with
    | nil => intro h; exact .nil
    | cons r _ ih =>
      intro h
      cases h with
      | cons h1 h2 => exact .cons (Dp.reads I _ _ _ h1 r) (ih h2)
  have e3 : ∀ {its : List Value} {zs : List (V × PyData)}, PySem.W.EachIs (fun u (b : V × PyData) => RelV b.1 u) its zs → Vals (zs.map (·.1)) its := by
    intro its zs h
    induction h with
    | nil => exact .nil
    | cons h1 _ ih => exact .cons h1 ih
  refine PySem.W.sorted_data (R := fun u (b : V × PyData) => RelV b.1 u) (enc := Prod.snd) hl.isList (e1 rv hlen) (e2 rv hal) (by rw [hsnd]; exact hall) (by rw [hsnd]; exact hk) (by rw [List.length_zip]; omega) (fun b hb => ?_) fun out hol ho => ?_
  · have := hdp b.2 (List.of_mem_zip hb).2
    show X.A.units + 2 + b.2.depth < cLine
    omega
  · obtain ⟨ep, he'⟩ := sortedAll_at s.heap its out.toArray
    have hp := List.mergeSort_perm (vs.zip ds) (PySem.W.dataLe false Prod.snd)
    have hlz : (((vs.zip ds).mergeSort (PySem.W.dataLe false Prod.snd)).map (·.1)).length ≤ sizeLine := by rw [List.length_map, hp.length_eq, List.length_zip]; omega
    exact ⟨.ref _, upd H (s.heap.objs.size + 1) (.lst (((vs.zip ds).mergeSort (PySem.W.dataLe false Prod.snd)).map (·.1))), I.laid (t' := s.toks) (fun _ _ => sortedAll_old) (Nat.le_succ _) ⟨hlz, out, ep, e3 ho, by simpa using he'⟩, rfl, q _ _ hp rfl (I.hok.fresh (Nat.le_succ _))⟩
end Wp
set_option Elab.async false
set_option linter.all false
set_option maxRecDepth 100000
namespace K01
open PySem PySem.Spec PyProof.Rows L2
open Wp (wo_lt wo_le wo_gt wo_ge wo_eq wo_ne wo_in wo_nin wo_add wo_mul op_shlB ws_any wc_int wc_isi u65)
def topS (i : Nat) : Stmt := PySem.Challenge.pw_shrunkalike_k01_automata_checked.main.body.getD i (.Pass ⟨0, 0, 0, 0⟩)
abbrev s_is_whole : Stmt := topS 10
abbrev N_is_whole : List Str := ["thing"]
theorem sc_is_whole : FnScope N_is_whole ["thing"] (defScope s_is_whole) := ⟨rfl, rfl, rfl, by decide +kernel, rfl, by decide +kernel, by decide +kernel⟩
abbrev s_is_row : Stmt := topS 11
abbrev N_is_row : List Str := ["thing"]
theorem sc_is_row : FnScope N_is_row ["thing"] (defScope s_is_row) := ⟨rfl, rfl, rfl, by decide +kernel, rfl, by decide +kernel, by decide +kernel⟩
abbrev s_is_between : Stmt := topS 12
abbrev N_is_between : List Str := ["thing", "low", "high"]
theorem sc_is_between : FnScope N_is_between ["thing", "low", "high"] (defScope s_is_between) := ⟨rfl, rfl, rfl, by decide +kernel, rfl, by decide +kernel, by decide +kernel⟩
abbrev s_is_text : Stmt := topS 13
abbrev N_is_text : List Str := ["signs", "thing", "most", "sign"]
theorem sc_is_text : FnScope N_is_text ["signs", "thing", "most"] (defScope s_is_text) := ⟨rfl, rfl, rfl, by decide +kernel, rfl, by decide +kernel, by decide +kernel⟩
abbrev s_checked_signs : Stmt := topS 14
abbrev N_checked_signs : List Str := ["thing", "before", "sign"]
theorem sc_checked_signs : FnScope N_checked_signs ["thing"] (defScope s_checked_signs) := ⟨rfl, rfl, rfl, by decide +kernel, rfl, by decide +kernel, by decide +kernel⟩
abbrev s_is_edge : Stmt := topS 15
abbrev N_is_edge : List Str := ["signs", "many", "thing", "state", "sign", "following"]
theorem sc_is_edge : FnScope N_is_edge ["signs", "many", "thing"] (defScope s_is_edge) := ⟨rfl, rfl, rfl, by decide +kernel, rfl, by decide +kernel, by decide +kernel⟩
local macro_rules | `(tactic| walk_at "W") => `(tactic| first
  | (with_reducible first
    | refine Wp.seq ?_ | refine Wp.asg ?_ | refine Wp.ret ?_ | refine Wp.retN ?_ | refine Wp.drop ?_ | refine Wp.nxt ?_ | refine Wp.ifs ?_ | refine Wp.gname ?_
    | refine Wp.op ?_ | refine Wp.un ?_ | refine Wp.tst ?_ | refine Wp.tb' ?_ | refine Wp.tnot ?_ | refine Wp.tand ?_ | refine Wp.tor ?_ | refine Wp.tandV ?_ | refine Wp.torV ?_ | refine Wp.tnotV ?_ | refine Wp.tif ?_ | refine Wp.tchain ?_
    | refine Wp.cb ?_ | refine Wp.call ?_ | refine Wp.cons ?_ | refine Wp.nil ?_ | refine Wp.gsub ?_ | refine Wp.cst ?_ | refine Wp.i0 ?_ | refine Wp.int1 ?_ | refine Wp.eb ?_ | refine Wp.ei ?_
    | refine Wp.gnil ?_ | refine Wp.gcons ?_ | refine Wp.mko ?_ | refine Wp.bm ?_ | refine Wp.ienum ?_ | refine Wp.tru ?_ | refine Wp.u1 ?_ | refine Wp.for_ ?_ | refine Wp.lc ?_ | refine Wp.istr ?_ | refine Wp.ilist ?_ | refine Wp.itup ?_ | refine Wp.irng1 ?_ | refine Wp.yes ?_ | refine Wp.es ?_ | refine Wp.er ?_ | refine Wp.sl ?_ | refine Wp.nopart ?_ | refine Wp.part ?_ | refine Wp.lst ?_ | refine Wp.tup ?_
    | refine Wp.ltI ?_ | refine Wp.leI ?_ | refine Wp.leS ?_ | refine Wp.inSg ?_ | refine Wp.gtI ?_ | refine Wp.geI ?_ | refine Wp.eqI ?_ | refine Wp.neI ?_ | refine Wp.addI ?_ | refine Wp.ltS ?_ | refine Wp.eqS ?_ | refine Wp.neS ?_)
  | ((with_reducible refine' Wp.var ?hv ?_); (case hv => exact rfl))
  | ((with_reducible refine' Wp.ixl ?hs ?he ?_); (case hs => first | exact SqL.of upd_same | exact SqL.of (by assumption) | assumption); (case he => exact rfl))
  | ((with_reducible refine' Wp.setl ?hs ?he ?_); (case hs => first | exact upd_same | assumption); (case he => exact rfl))
  | ((with_reducible refine' Wp.modP ?hs ?_); (case hs => first | decide | omega))
  | ((with_reducible refine' Wp.divN ?hs ?ht ?_); (case hs => first | decide | omega); (case ht => first | decide | omega))
  | ((with_reducible refine' Wp.mulM ?hs ?ht ?_); (case hs => decide); (case ht => decide))
  | ((with_reducible refine' Wp.mulL ?hs ?_); (case hs => omega))
  | ((with_reducible refine' Wp.mulR ?hs ?_); (case hs => omega))
  | ((with_reducible refine' Wp.powS ?hs ?_); (case hs => decide))
  | ((with_reducible refine' Wp.shr ?hs ?_); (case hs => decide))
  | ((with_reducible refine' Wp.szl ?hs ?_); (case hs => first | decide | (simp; done)))
  | ((with_reducible refine' Wp.lenL ?hs ?_); (case hs => first | exact SqL.of upd_same | exact SqL.of (by assumption) | assumption))
  | ((with_reducible refine' Wp.lenT ?hs ?_); (case hs => first | exact SqT.of upd_same | exact SqT.of (by assumption) | assumption))
  | ((with_reducible refine' Wp.iteC ?hs ?_); (case hs => exact rfl)) | ((with_reducible refine' Wp.iteD ?hs ?_); (case hs => exact Bool.false_ne_true))
  | ((with_reducible refine' Wp.wp ?hs ?_); (case hs => rfl))
  | (with_reducible first | refine Wp.abs ?_ | refine Wp.max2 ?_ | refine Wp.min2 ?_)
  | ((with_reducible refine' Wp.sll ?hs ?_); (case hs => first | exact SqL.of upd_same | exact SqL.of (by assumption) | assumption)))
local macro_rules | `(tactic| walk_at "KQ") => `(tactic| first
  | exact Wp.kq "int" rfl (by decide +kernel) | exact Wp.kq "bool" rfl (by decide +kernel) | exact Wp.kq "str" rfl (by decide +kernel) | exact Wp.kq "list" rfl (by decide +kernel)
  | exact Wp.kq "tuple" rfl (by decide +kernel) | exact Wp.kq "NoneType" rfl (by decide +kernel) | exact Wp.kq "dict" rfl (by decide +kernel))

section
variable {P : Program} {w : World} {K : PySem.W.Frag} {mg : Str → Option Value} {base : Heap}
def spWhole (K : PySem.W.Frag) : Sp := fun vs H Q _ => ∃ v d, vs = [v] ∧ Dp K H v d ∧ Q (.bl (Wp.isWhole d)) H
theorem ok_whole (B : Wp.Blt mg) {f : Addr} {fd : FuncData} (F : Fun K "is_whole" "is_whole" s_is_whole f fd) : FnOk P w K mg base CX0 1 f fd ["thing"] (spWhole K) := by
  refine F.ok sc_is_whole (fun vs H Q E h => ?_) (fun cdv A outer s H vs Q E hr h => ?_)
  · obtain ⟨v, d, rfl, _⟩ := h
    rfl
  · obtain ⟨v, d, rfl, hd, q⟩ := h
    refine ⟨_, (pss_one (ps_ret (pe_and (pe_callB (wc_isi (K := K)) (by rfl) B.isinstance (by decide +kernel) (pa_cons (pv 0) (pa_cons (pe_bltn (v := .ty "int") (by rfl) B.int (by decide +kernel) rfl) pa_nil))) (pe_one (pe_not (pe_callB (wc_isi (K := K)) (by rfl) B.isinstance (by decide +kernel) (pa_cons (pv 0) (pa_cons (pe_bltn (v := .ty "bool") (by rfl) B.bool (by decide +kernel) rfl) pa_nil)))))))), ?_⟩
    refine Wp.st (σ' := [some v]) rfl ?_
    repeat walk_at "W"
    cases d with
    | int i =>
      refine Wp.isi1 (b := true) hd (by walk_at "KQ") ?_
      repeat walk_at "W"
      repeat walk_at "W"
      refine Wp.isi1 (b := false) hd (by walk_at "KQ") ?_
      repeat walk_at "W"
      exact q
    | bool b =>
      refine Wp.isi1 (b := true) hd (by walk_at "KQ") ?_
      repeat walk_at "W"
      repeat walk_at "W"
      refine Wp.isi1 (b := true) hd (by walk_at "KQ") ?_
      repeat walk_at "W"
      exact q
    | _ =>
      refine Wp.isi1 (b := false) hd (by walk_at "KQ") ?_
      repeat walk_at "W"
      exact q
def spRow (K : PySem.W.Frag) : Sp := fun vs H Q _ => ∃ v d, vs = [v] ∧ Dp K H v d ∧ ∀ H', Same H H' → Q (.bl (Wp.row d).isSome) H'
theorem ok_row (B : Wp.Blt mg) {f : Addr} {fd : FuncData} (F : Fun K "is_row" "is_row" s_is_row f fd) : FnOk P w K mg base CX0 1 f fd ["thing"] (spRow K) := by
  refine F.ok sc_is_row (fun vs H Q E h => ?_) (fun cdv A outer s H vs Q E hr h => ?_)
  · obtain ⟨v, d, rfl, _⟩ := h
    rfl
  · obtain ⟨v, d, rfl, hd, q⟩ := h
    refine ⟨_, (pss_one (ps_ret (pe_callB (wc_isi (K := K)) (by rfl) B.isinstance (by decide +kernel) (pa_cons (pv 0) (pa_cons (pe_tup (pa_cons (pe_bltn (v := .ty "list") (by rfl) B.list (by decide +kernel) rfl) (pa_cons (pe_bltn (v := .ty "tuple") (by rfl) B.tuple (by decide +kernel) rfl) pa_nil))) pa_nil))))), ?_⟩
    refine Wp.st (σ' := [some v]) rfl ?_
    repeat walk_at "W"
    intro p hp
    have sm := Wp.same_upd (p := p) (o := .tup [.ty "list", .ty "tuple"]) hp
    have hd' := Wp.dp_same sm d v hd
    repeat walk_at "W"
    cases d with
    | list xs => exact Wp.isi2 (b := true) (c := false) hd' upd_same (by walk_at "KQ") (by walk_at "KQ") (q _ sm)
    | tuple xs => exact Wp.isi2 (b := false) (c := true) hd' upd_same (by walk_at "KQ") (by walk_at "KQ") (q _ sm)
    | _ => exact Wp.isi2 (b := false) (c := false) hd' upd_same (by walk_at "KQ") (by walk_at "KQ") (q _ sm)
def spBetween (K : PySem.W.Frag) : Sp := fun vs H Q _ => ∃ v d lo hi, vs = [v, .int lo, .int hi] ∧ Dp K H v d ∧ Q (.bl (Wp.between lo hi d)) H
theorem ok_between (B : Wp.Blt mg) {f fW : Addr} {fd fdW : FuncData} (F : Fun K "is_between" "is_between" s_is_between f fd) (D_is_whole : Wp.Dh K mg "is_whole" fW fdW ["thing"])
    (G_is_whole : FnOk P w K mg base CX0 1 fW fdW ["thing"] (spWhole K)) : FnOk P w K mg base CX0 2 f fd ["thing", "low", "high"] (spBetween K) := by
  refine F.ok sc_is_between (fun vs H Q E h => ?_) (fun cdv A outer s H vs Q E hr h => ?_)
  · obtain ⟨v, d, lo, hi, rfl, _⟩ := h
    rfl
  · obtain ⟨v, d, lo, hi, rfl, hd, q⟩ := h
    refine ⟨_, (pss_one (ps_ret (pe_and (pe_call G_is_whole (hr.mono (by decide)) (by rfl) D_is_whole.g D_is_whole.k D_is_whole.b .nil pass0 (pa_cons (pv 0) pa_nil)) (pe_one (pe_chain (wo_le (K := K) hr.units) (wo_le (K := K) hr.units) (pv 1) (pv 0) (pv 2)))))), ?_⟩
    refine Wp.st (σ' := [some v, some (.int lo), some (.int hi)]) rfl ?_
    repeat walk_at "W"
    refine ⟨v, d, rfl, hd, ?_⟩
    repeat walk_at "W"
    cases d with
    | int i =>
      cases hd
      repeat walk_at "W"
      refine Wp.itd (fun h0 => ?_) (fun h0 => ?_)
      · repeat walk_at "W"
        have e : Wp.between lo hi (.int i) = decide (i ≤ hi) := by show (decide (lo ≤ i) && decide (i ≤ hi)) = _; rw [decide_eq_true h0]; rfl
        rw [e] at q
        exact q
      · have e : Wp.between lo hi (.int i) = false := by show (decide (lo ≤ i) && decide (i ≤ hi)) = _; rw [decide_eq_false h0]; rfl
        rw [e] at q
        exact q
    | _ => exact q
def spText (K : PySem.W.Frag) : Sp := fun vs H Q _ => ∃ sg v d n, vs = [.str sg, v, .int n] ∧ Dp K H v d ∧ 0 ≤ n ∧ n ≤ 1000 ∧ (∀ z, d = .str z → z.length ≤ 16777216) ∧ ∀ H', Same H H' → Q (.bl (Wp.isText sg n d)) H'
theorem ok_text (B : Wp.Blt mg) {f : Addr} {fd : FuncData} (F : Fun K "is_text" "is_text" s_is_text f fd) : FnOk P w K mg base CX0 1 f fd ["signs", "thing", "most"] (spText K) := by
  refine F.ok sc_is_text (fun vs H Q E h => ?_) (fun cdv A outer s H vs Q E hr h => ?_)
  · obtain ⟨sg, v, d, n, rfl, _⟩ := h
    rfl
  · obtain ⟨sg, v, d, n, rfl, hd, hn0, hn1, hz, q⟩ := h
    refine ⟨_, (pss_cons (ps_if (PW.pt (pw_or (pt_not (pt_val (pe_callB (wc_isi (K := K)) (by rfl) B.isinstance (by decide +kernel) (pa_cons (pv 1) (pa_cons (pe_bltn (v := .ty "str") (by rfl) B.str (by decide +kernel) rfl) pa_nil))))) (pw_or1 (pt_cmpR wo_gt (pe_callB (Wp.wc_len (K := K)) (by rfl) B.len (by decide +kernel) (pa_cons (pv 1) pa_nil)) (pv 2) (nomark _))))) (pss_one (ps_ret pe_bl)) pss_nil)
  (pss_one (ps_ret (pe_callB (Wp.wc_all (K := K) rfl) (by rfl) B.all (by decide +kernel) (pa_cons (pe_lc (own := [("sign", 3)]) (g := gName 3) (by rfl) sc_is_text.nd (pi_str (pv 1)) (blkOk_by (own := [("sign", 3)]) (N := N_is_text) (sc := defScope s_is_text) (by decide +kernel)) (fun _ _ _ _ _ => pg_name (i := 3) sc_is_text.nd rfl (Or.inl rfl)) (fun _ _ _ _ _ => pts_nil) (fun _ _ _ _ _ => (pe_cmpR (wo_in (K := K) (u65 hr)) (pv 3) (pv 0) (by rfl)))) pa_nil))))), ?_⟩
    refine Wp.st (σ' := [some (.str sg), some v, some (.int n), none]) rfl ?_
    repeat walk_at "W"
    cases d with
    | str z =>
      cases hd
      refine Wp.isi1 (b := true) (.str z) (by walk_at "KQ") ?_
      repeat walk_at "W"
      repeat walk_at "W"
      refine Wp.lenS (hz z rfl) ?_
      repeat walk_at "W"
      refine Wp.itd (fun h0 => ?_) (fun h0 => ?_)
      · repeat walk_at "W"
        have e : Wp.isText sg n (.str z) = false := by
          show (decide ((z.length : Int) ≤ n) && _) = false
          rw [decide_eq_false (by omega)]; rfl
        rw [e] at q
        exact q _ (Same.refl _)
      · repeat walk_at "W"
        have e : Wp.isText sg n (.str z) = z.cps.toList.all fun c => decide (c ∈ sg.cps.toList) := by
          show (decide ((z.length : Int) ≤ n) && _) = _
          rw [decide_eq_true (by omega)]; rfl
        rw [e] at q
        intro A hA
        have sm := Wp.same_upd (p := A) (o := .lst []) hA
        refine Wp.lcIt walk_str (fun i H1 => Same H H1 ∧ H1 A = some (.lst (((z.cps.toList.take i).map fun c => decide (c ∈ sg.cps.toList)).map V.bl))) ⟨sm, upd_same⟩ (fun _ _ _ _ => trivial) ?_ ?_
        · rintro i x H1 H' hi ⟨s1, hl⟩ ⟨rfl, c, hc, rfl⟩
          repeat walk_at "W"
          repeat walk_at "W"
          refine ⟨_, hl, ?_, fun b o hb => ?_, ?_⟩
          · rw [List.length_map, List.length_map, List.length_take]
            have : z.length = z.cps.size := rfl
            have : z.length ≤ 1000 := by omega
            refine small1000 ?_
            omega
          · rw [upd_ne (ne_of_none hb hA)]
            exact s1 _ _ hb
          · rw [upd_same]
            have hc' : z.cps.toList[i]? = some c := by rw [Array.getElem?_toList]; exact hc
            rw [List.take_add_one, hc', List.map_append, List.map_append]
            rfl
        · rintro H1 ⟨s1, hl⟩
          have ez : z.cps.toList.take z.cps.size = z.cps.toList := List.take_of_length_le (by simp)
          rw [ez] at hl
          repeat walk_at "W"
          refine Wp.allL (SqL.of hl) ?_
          rw [List.all_map]
          exact q _ s1
    | _ =>
      refine Wp.isi1 (b := false) hd (by walk_at "KQ") ?_
      repeat walk_at "W"
      repeat walk_at "W"
      exact q _ (Same.refl _)
end
end K01
set_option Elab.async false
set_option linter.all false
set_option maxRecDepth 100000
namespace K01
open PySem PySem.Spec PyProof.Rows L2
open Wp (wo_lt wo_le wo_gt wo_ge wo_eq wo_ne wo_in wo_nin wo_add wo_mul op_shlB ws_any wc_int wc_isi u65)
abbrev s_initT : Stmt := inClass (topS 2) 0
abbrev s_initI : Stmt := inClass (topS 4) 0
theorem sc_initT : FnScope ["self", "thing"] ["self", "thing"] (defScope s_initT) := ⟨rfl, rfl, rfl, by decide +kernel, rfl, by decide +kernel, by decide +kernel⟩
theorem sc_initI : FnScope ["self", "place"] ["self", "place"] (defScope s_initI) := ⟨rfl, rfl, rfl, by decide +kernel, rfl, by decide +kernel, by decide +kernel⟩
local macro_rules | `(tactic| walk_at "W") => `(tactic| first
  | (with_reducible first
    | refine Wp.seq ?_ | refine Wp.asg ?_ | refine Wp.ret ?_ | refine Wp.retN ?_ | refine Wp.drop ?_ | refine Wp.nxt ?_ | refine Wp.ifs ?_ | refine Wp.gname ?_
    | refine Wp.op ?_ | refine Wp.un ?_ | refine Wp.tst ?_ | refine Wp.tb' ?_ | refine Wp.tnot ?_ | refine Wp.tand ?_ | refine Wp.tor ?_ | refine Wp.tandV ?_ | refine Wp.torV ?_ | refine Wp.tnotV ?_ | refine Wp.tif ?_ | refine Wp.tchain ?_
    | refine Wp.cb ?_ | refine Wp.call ?_ | refine Wp.cons ?_ | refine Wp.nil ?_ | refine Wp.gsub ?_ | refine Wp.cst ?_ | refine Wp.i0 ?_ | refine Wp.int1 ?_ | refine Wp.eb ?_ | refine Wp.ei ?_
    | refine Wp.gnil ?_ | refine Wp.gcons ?_ | refine Wp.mko ?_ | refine Wp.bm ?_ | refine Wp.ienum ?_ | refine Wp.tru ?_ | refine Wp.u1 ?_ | refine Wp.for_ ?_ | refine Wp.lc ?_ | refine Wp.istr ?_ | refine Wp.ilist ?_ | refine Wp.itup ?_ | refine Wp.irng1 ?_ | refine Wp.yes ?_ | refine Wp.es ?_ | refine Wp.er ?_ | refine Wp.sl ?_ | refine Wp.nopart ?_ | refine Wp.part ?_ | refine Wp.lst ?_ | refine Wp.tup ?_
    | refine Wp.ltI ?_ | refine Wp.leI ?_ | refine Wp.leS ?_ | refine Wp.inSg ?_ | refine Wp.gtI ?_ | refine Wp.geI ?_ | refine Wp.eqI ?_ | refine Wp.neI ?_ | refine Wp.addI ?_ | refine Wp.ltS ?_ | refine Wp.eqS ?_ | refine Wp.neS ?_)
  | ((with_reducible refine' Wp.var ?hv ?_); (case hv => exact rfl))
  | ((with_reducible refine' Wp.ixl ?hs ?he ?_); (case hs => first | exact SqL.of upd_same | exact SqL.of (by assumption) | assumption); (case he => exact rfl))
  | ((with_reducible refine' Wp.setl ?hs ?he ?_); (case hs => first | exact upd_same | assumption); (case he => exact rfl))
  | ((with_reducible refine' Wp.modP ?hs ?_); (case hs => first | decide | omega))
  | ((with_reducible refine' Wp.divN ?hs ?ht ?_); (case hs => first | decide | omega); (case ht => first | decide | omega))
  | ((with_reducible refine' Wp.mulM ?hs ?ht ?_); (case hs => decide); (case ht => decide))
  | ((with_reducible refine' Wp.mulL ?hs ?_); (case hs => omega))
  | ((with_reducible refine' Wp.mulR ?hs ?_); (case hs => omega))
  | ((with_reducible refine' Wp.powS ?hs ?_); (case hs => decide))
  | ((with_reducible refine' Wp.shr ?hs ?_); (case hs => decide))
  | ((with_reducible refine' Wp.szl ?hs ?_); (case hs => first | decide | (simp; done)))
  | ((with_reducible refine' Wp.lenL ?hs ?_); (case hs => first | exact SqL.of upd_same | exact SqL.of (by assumption) | assumption))
  | ((with_reducible refine' Wp.lenT ?hs ?_); (case hs => first | exact SqT.of upd_same | exact SqT.of (by assumption) | assumption))
  | ((with_reducible refine' Wp.iteC ?hs ?_); (case hs => exact rfl)) | ((with_reducible refine' Wp.iteD ?hs ?_); (case hs => exact Bool.false_ne_true))
  | ((with_reducible refine' Wp.wp ?hs ?_); (case hs => rfl))
  | (with_reducible first | refine Wp.abs ?_ | refine Wp.max2 ?_ | refine Wp.min2 ?_)
  | ((with_reducible refine' Wp.sll ?hs ?_); (case hs => first | exact SqL.of upd_same | exact SqL.of (by assumption) | assumption)))
local macro_rules | `(tactic| walk_at "KQ") => `(tactic| first
  | exact Wp.kq "int" rfl (by decide +kernel) | exact Wp.kq "bool" rfl (by decide +kernel) | exact Wp.kq "str" rfl (by decide +kernel) | exact Wp.kq "list" rfl (by decide +kernel)
  | exact Wp.kq "tuple" rfl (by decide +kernel) | exact Wp.kq "NoneType" rfl (by decide +kernel) | exact Wp.kq "dict" rfl (by decide +kernel))

section
variable {P : Program} {w : World} {K : PySem.W.Frag} {mg : Str → Option Value} {base : Heap}
theorem ok_initT {f : Addr} {fd : FuncData} (F : Fun K "__init__" "WrongThing.__init__" s_initT f fd) : FnOk P w K mg base CX0 1 f fd ["self", "thing"] (Wp.spInit K "thing") := by
  refine F.ok sc_initT (fun vs H Q E h => ?_) (fun cdv A outer s H vs Q E hr h => ?_)
  · obtain ⟨a, C, y, rfl, _⟩ := h
    rfl
  · obtain ⟨a, C, y, rfl, hO, hno, ha, q⟩ := h
    refine ⟨_, pss_one (ps_ost (pv 0) (pv 1)), ?_⟩
    exact ⟨y, rfl, .ref a, rfl, a, C, rfl, hO, hno, .inl ⟨ha, fun dx hdx hne => q dx hdx hne⟩⟩
theorem ok_initI {f : Addr} {fd : FuncData} (F : Fun K "__init__" "WrongItem.__init__" s_initI f fd) : FnOk P w K mg base CX0 1 f fd ["self", "place"] (Wp.spInit K "place") := by
  refine F.ok sc_initI (fun vs H Q E h => ?_) (fun cdv A outer s H vs Q E hr h => ?_)
  · obtain ⟨a, C, y, rfl, _⟩ := h
    rfl
  · obtain ⟨a, C, y, rfl, hO, hno, ha, q⟩ := h
    refine ⟨_, pss_one (ps_ost (pv 0) (pv 1)), ?_⟩
    exact ⟨y, rfl, .ref a, rfl, a, C, rfl, hO, hno, .inl ⟨ha, fun dx hdx hne => q dx hdx hne⟩⟩
def leS (i j : Str) : Bool := !decide (j.cps.toList < i.cps.toList)
def badSign (b : Str) (c : Nat) : Bool := !(leS "a" ⟨#[c]⟩ && leS ⟨#[c]⟩ "z") || leS ⟨#[c]⟩ b
def sgOk : Str → List Nat → Bool
  | _, [] => true
  | b, c :: r => !badSign b c && sgOk ⟨#[c]⟩ r
def goodSigns : PyData → Bool
  | .str z => (decide (1 ≤ (z.length : Int)) && decide ((z.length : Int) ≤ 8)) && sgOk "" z.cps.toList
  | _ => false
def spSigned (K : PySem.W.Frag) (C : Addr) : Sp := fun vs H Q E => ∃ v d, vs = [v] ∧ Dp K H v d ∧ (∀ z, d = .str z → z.length ≤ 16777216) ∧ (goodSigns d = true → Q v H) ∧
  (goodSigns d = false → ∀ dd H', H dd = none → Same H H' → H' dd = some (.xd [("thing", v)]) → E (.ref C) (some dd) H')
theorem ok_signed (B : Wp.Blt mg) {f C fI : Addr} {fd fdI : FuncData} (F : Fun K "checked_signs" "checked_signs" s_checked_signs f fd) (T_BadSigns : Wp.ExT K mg "BadSigns" C fI "thing") (c_MOST_SIGNS : ∃ t, mg "MOST_SIGNS" = some (.int 8 t))
    (G_BadSigns : FnOk P w K mg base CX0 1 fI fdI ["self", "thing"] (Wp.spInit K "thing")) (b_BadSigns : Binds K fdI ["self", "thing"] []) : FnOk P w K mg base (L2.CX P w) 3 f fd ["thing"] (spSigned K C) := by
  obtain ⟨tk, c_MOST_SIGNS⟩ := c_MOST_SIGNS
  refine F.okX sc_checked_signs (fun vs H Q E h => ?_) (fun cdv A outer s H vs Q E hr h => ?_)
  · obtain ⟨v, d, rfl, _⟩ := h
    rfl
  · obtain ⟨v, d, rfl, hd, hz, qr, qe⟩ := h
    refine ⟨_, (pss_cons (ps_if (PW.pt (pw_or (pt_not (pt_val (pe_callB (wc_isi (K := K)) (by rfl) B.isinstance (by decide +kernel) (pa_cons (pv 0) (pa_cons (pe_bltn (v := .ty "str") (by rfl) B.str (by decide +kernel) rfl) pa_nil))))) (pw_or1 (pt_not (pt_chain (wo_le (K := K) hr.units) (wo_le (K := K) hr.units) pe_int (pe_callB (Wp.wc_len (K := K)) (by rfl) B.len (by decide +kernel) (pa_cons (pv 0) pa_nil)) (pe_glob (v := .int 8) (by rfl) c_MOST_SIGNS ⟨_, rfl⟩)))))) (pss_one (ps_raise rfl (takes_of rfl rfl rfl rfl) (pmk_oex T_BadSigns.O T_BadSigns.iC T_BadSigns.tI G_BadSigns (hr.mono (by decide)) b_BadSigns .nil pass0 (by rfl) T_BadSigns.g (pa_cons (pv 0) pa_nil)))) pss_nil)
  (pss_cons (ps_set (i := 1) sc_checked_signs.nd rfl (by first | exact .inl rfl | exact .inr rfl) pe_str)
  (pss_cons (ps_for (passes_of rfl) rfl (pi_str (pv 0)) (pg_name (i := 2) sc_checked_signs.nd rfl (by first | exact .inl rfl | exact .inr rfl)) (pss_cons (ps_if (PW.pt (pw_or (pt_not (pt_chain (wo_le (K := K) hr.units) (wo_le (K := K) hr.units) pe_str (pv 2) pe_str)) (pw_or1 (pt_cmpR (wo_le (K := K) hr.units) (pv 2) (pv 1) (nomark _))))) (pss_one (ps_raise rfl (takes_of rfl rfl rfl rfl) (pmk_oex T_BadSigns.O T_BadSigns.iC T_BadSigns.tI G_BadSigns (hr.mono (by decide)) b_BadSigns .nil pass0 (by rfl) T_BadSigns.g (pa_cons (pv 0) pa_nil)))) pss_nil)
  (pss_one (ps_set (i := 1) sc_checked_signs.nd rfl (by first | exact .inl rfl | exact .inr rfl) (pv 2)))))
  (pss_one (ps_ret (pv 0)))))), ?_⟩
    refine Wp.st (σ' := [some v, none, none]) rfl ?_
    repeat walk_at "W"
    have bad : goodSigns d = false → Wp.MkI C (Wp.spInit K "thing") [] (fun cls d H' => E cls d H') [v] H := fun hb => Wp.mki T_BadSigns (qe hb)
    cases d with
    | str z =>
      cases hd
      refine Wp.isi1 (b := true) (.str z) (by walk_at "KQ") ?_
      repeat walk_at "W"
      refine Wp.lenS (hz z rfl) ?_
      repeat walk_at "W"
      refine Wp.itd (fun h1 => ?_) (fun h1 => ?_)
      rotate_left
      · repeat walk_at "W"
        refine bad ?_
        show ((decide (1 ≤ (z.length : Int)) && _) && _) = false
        rw [decide_eq_false h1]; rfl
      · repeat walk_at "W"
        refine Wp.itnb (fun h2 => ?_) (fun h2 => ?_)
        · repeat walk_at "W"
          refine bad ?_
          show ((_ && decide ((z.length : Int) ≤ 8)) && _) = false
          rw [h2, Bool.and_false]; rfl
        · repeat walk_at "W"
          have hg : goodSigns (.str z) = sgOk "" z.cps.toList := by
            show ((decide (1 ≤ (z.length : Int)) && decide ((z.length : Int) ≤ 8)) && _) = _
            rw [decide_eq_true h1, h2]; rfl
          refine Wp.forIt walk_str (fun i σ1 H1 => ∃ (b : Str) (x : Option V), σ1 = [some (.str z), some (.str b), x] ∧ H1 = H ∧ sgOk "" z.cps.toList = sgOk b (z.cps.toList.drop i)) ⟨_, _, rfl, rfl, rfl⟩ (fun _ _ _ _ _ => trivial) ?_ ?_
          · rintro i x σ1 H1 H' hi ⟨b, x0, rfl, rfl, he⟩ ⟨rfl, c, hc, rfl⟩
            have hc' : z.cps.toList[i]? = some c := by rw [Array.getElem?_toList]; exact hc
            have hd1 : z.cps.toList.drop i = c :: z.cps.toList.drop (i + 1) := by
              obtain ⟨hl, hx⟩ := List.getElem?_eq_some_iff.mp hc'
              rw [List.drop_eq_getElem_cons hl, hx]
            rw [hd1] at he
            have isbad : badSign b c = true → goodSigns (.str z) = false := fun hb => by
              rw [hg, he]
              show (!badSign b c && _) = false
              rw [hb]; rfl
            repeat walk_at "W"
            refine Wp.itb (fun e1 => ?_) (fun e1 => ?_)
            · repeat walk_at "W"
              refine Wp.itnb (fun e2 => ?_) (fun e2 => ?_)
              · repeat walk_at "W"
                refine bad (isbad ?_)
                show (!(leS "a" ⟨#[c]⟩ && leS ⟨#[c]⟩ "z") || _) = true
                rw [show leS ⟨#[c]⟩ "z" = false from e2, Bool.and_false]; rfl
              · repeat walk_at "W"
                refine Wp.itb (fun e3 => ?_) (fun e3 => ?_)
                · repeat walk_at "W"
                  refine bad (isbad ?_)
                  show (_ || leS ⟨#[c]⟩ b) = true
                  rw [show leS ⟨#[c]⟩ b = true from e3, Bool.or_true]
                · repeat walk_at "W"
                  refine ⟨_, _, rfl, rfl, he.trans ?_⟩
                  show (!(!(leS "a" ⟨#[c]⟩ && leS ⟨#[c]⟩ "z") || leS ⟨#[c]⟩ b) && _) = _
                  rw [show leS "a" ⟨#[c]⟩ = true from e1, show leS ⟨#[c]⟩ "z" = true from e2, show leS ⟨#[c]⟩ b = false from e3]; rfl
            · repeat walk_at "W"
              refine bad (isbad ?_)
              show (!(leS "a" ⟨#[c]⟩ && leS ⟨#[c]⟩ "z") || _) = true
              rw [show leS "a" ⟨#[c]⟩ = false from e1]; rfl
          · rintro σ1 H1 ⟨b, x0, rfl, rfl, he⟩
            repeat walk_at "W"
            refine qr ?_
            rw [hg, he, List.drop_of_length_le (by simp)]
            rfl
    | _ =>
      refine Wp.isi1 (b := false) hd (by walk_at "KQ") ?_
      repeat walk_at "W"
      exact bad rfl
end
end K01
set_option Elab.async false
set_option linter.all false
set_option maxRecDepth 100000
namespace K01
open PySem PySem.Spec PyProof.Rows L2
open Wp (wo_lt wo_le wo_gt wo_ge wo_eq wo_ne wo_in wo_nin wo_add wo_mul op_shlB ws_any wc_int wc_isi u65)
abbrev s_edges_of : Stmt := topS 17
abbrev N_edges_of : List Str := ["signs", "many", "things", "found", "place", "thing", "edge"]
theorem sc_edges_of : FnScope N_edges_of ["signs", "many", "things"] (defScope s_edges_of) := ⟨rfl, rfl, rfl, by decide +kernel, rfl, by decide +kernel, by decide +kernel⟩
local macro_rules | `(tactic| walk_at "W") => `(tactic| first
  | (with_reducible first
    | refine Wp.seq ?_ | refine Wp.asg ?_ | refine Wp.ret ?_ | refine Wp.retN ?_ | refine Wp.drop ?_ | refine Wp.nxt ?_ | refine Wp.ifs ?_ | refine Wp.gname ?_
    | refine Wp.op ?_ | refine Wp.un ?_ | refine Wp.tst ?_ | refine Wp.tb' ?_ | refine Wp.tnot ?_ | refine Wp.tand ?_ | refine Wp.tor ?_ | refine Wp.tandV ?_ | refine Wp.torV ?_ | refine Wp.tnotV ?_ | refine Wp.tif ?_ | refine Wp.tchain ?_
    | refine Wp.cb ?_ | refine Wp.call ?_ | refine Wp.cons ?_ | refine Wp.nil ?_ | refine Wp.gsub ?_ | refine Wp.cst ?_ | refine Wp.i0 ?_ | refine Wp.int1 ?_ | refine Wp.eb ?_ | refine Wp.ei ?_
    | refine Wp.gnil ?_ | refine Wp.gcons ?_ | refine Wp.mko ?_ | refine Wp.bm ?_ | refine Wp.ienum ?_ | refine Wp.tru ?_ | refine Wp.u1 ?_ | refine Wp.for_ ?_ | refine Wp.lc ?_ | refine Wp.istr ?_ | refine Wp.ilist ?_ | refine Wp.itup ?_ | refine Wp.irng1 ?_ | refine Wp.yes ?_ | refine Wp.es ?_ | refine Wp.er ?_ | refine Wp.sl ?_ | refine Wp.nopart ?_ | refine Wp.part ?_ | refine Wp.lst ?_ | refine Wp.tup ?_
    | refine Wp.ltI ?_ | refine Wp.leI ?_ | refine Wp.leS ?_ | refine Wp.inSg ?_ | refine Wp.gtI ?_ | refine Wp.geI ?_ | refine Wp.eqI ?_ | refine Wp.neI ?_ | refine Wp.addI ?_ | refine Wp.ltS ?_ | refine Wp.eqS ?_ | refine Wp.neS ?_)
  | ((with_reducible refine' Wp.var ?hv ?_); (case hv => exact rfl))
  | ((with_reducible refine' Wp.ixl ?hs ?he ?_); (case hs => first | exact SqL.of upd_same | exact SqL.of (by assumption) | assumption); (case he => exact rfl))
  | ((with_reducible refine' Wp.setl ?hs ?he ?_); (case hs => first | exact upd_same | assumption); (case he => exact rfl))
  | ((with_reducible refine' Wp.modP ?hs ?_); (case hs => first | decide | omega))
  | ((with_reducible refine' Wp.divN ?hs ?ht ?_); (case hs => first | decide | omega); (case ht => first | decide | omega))
  | ((with_reducible refine' Wp.mulM ?hs ?ht ?_); (case hs => decide); (case ht => decide))
  | ((with_reducible refine' Wp.mulL ?hs ?_); (case hs => omega))
  | ((with_reducible refine' Wp.mulR ?hs ?_); (case hs => omega))
  | ((with_reducible refine' Wp.powS ?hs ?_); (case hs => decide))
  | ((with_reducible refine' Wp.shr ?hs ?_); (case hs => decide))
  | ((with_reducible refine' Wp.szl ?hs ?_); (case hs => first | decide | (simp; done)))
  | ((with_reducible refine' Wp.lenL ?hs ?_); (case hs => first | exact SqL.of upd_same | exact SqL.of (by assumption) | assumption))
  | ((with_reducible refine' Wp.lenT ?hs ?_); (case hs => first | exact SqT.of upd_same | exact SqT.of (by assumption) | assumption))
  | ((with_reducible refine' Wp.iteC ?hs ?_); (case hs => exact rfl)) | ((with_reducible refine' Wp.iteD ?hs ?_); (case hs => exact Bool.false_ne_true))
  | ((with_reducible refine' Wp.wp ?hs ?_); (case hs => rfl))
  | (with_reducible first | refine Wp.abs ?_ | refine Wp.max2 ?_ | refine Wp.min2 ?_)
  | ((with_reducible refine' Wp.sll ?hs ?_); (case hs => first | exact SqL.of upd_same | exact SqL.of (by assumption) | assumption)))
local macro_rules | `(tactic| walk_at "KQ") => `(tactic| first
  | exact Wp.kq "int" rfl (by decide +kernel) | exact Wp.kq "bool" rfl (by decide +kernel) | exact Wp.kq "str" rfl (by decide +kernel) | exact Wp.kq "list" rfl (by decide +kernel)
  | exact Wp.kq "tuple" rfl (by decide +kernel) | exact Wp.kq "NoneType" rfl (by decide +kernel) | exact Wp.kq "dict" rfl (by decide +kernel))

section
variable {P : Program} {w : World} {K : PySem.W.Frag} {mg : Str → Option Value} {base : Heap}
def isEdge (sg : Str) (many : Int) (d : PyData) : Bool := match Wp.row d with
  | some [p, x, q] => Wp.between 0 (many - 1) p && Wp.between 0 (many - 1) q && Wp.isText sg 1 x
  | _ => false
def spEdge (K : PySem.W.Frag) : Sp := fun vs H Q _ => ∃ sg many v d, vs = [.str sg, .int many, v] ∧ Dp K H v d ∧ Wp.sm d = true ∧ ∀ H', Same H H' → Q (.bl (isEdge sg many d)) H'
theorem three {α : Type} {xs : List α} (h : xs.length = 3) : ∃ a b c, xs = [a, b, c] := match xs, h with
  | [a, b, c], _ => ⟨a, b, c, rfl⟩
theorem ok_edge (B : Wp.Blt mg) {f fR fB fT : Addr} {fd fdR fdB fdT : FuncData} (F : Fun K "is_edge" "is_edge" s_is_edge f fd) (D_is_row : Wp.Dh K mg "is_row" fR fdR ["thing"]) (G_is_row : FnOk P w K mg base CX0 1 fR fdR ["thing"] (spRow K))
    (D_is_between : Wp.Dh K mg "is_between" fB fdB ["thing", "low", "high"]) (G_is_between : FnOk P w K mg base CX0 2 fB fdB ["thing", "low", "high"] (spBetween K))
    (D_is_text : Wp.Dh K mg "is_text" fT fdT ["signs", "thing", "most"]) (G_is_text : FnOk P w K mg base CX0 1 fT fdT ["signs", "thing", "most"] (spText K)) : FnOk P w K mg base CX0 3 f fd ["signs", "many", "thing"] (spEdge K) := by
  refine F.ok sc_is_edge (fun vs H Q E h => ?_) (fun cdv A outer s H vs Q E hr h => ?_)
  · obtain ⟨sg, many, v, d, rfl, _⟩ := h
    rfl
  · obtain ⟨sg, many, v, d, rfl, hd, hsm, q⟩ := h
    refine ⟨_, (pss_cons (ps_if (PW.pt (pw_or (pt_not (pt_val (pe_call G_is_row (hr.mono (by decide)) (by rfl) D_is_row.g D_is_row.k D_is_row.b .nil pass0 (pa_cons (pv 2) pa_nil)))) (pw_or1 (pt_cmpR (wo_ne (K := K) hr.units) (pe_callB (Wp.wc_len (K := K)) (by rfl) B.len (by decide +kernel) (pa_cons (pv 2) pa_nil)) pe_int (nomark _))))) (pss_one (ps_ret pe_bl)) pss_nil)
  (pss_cons (ps_asg (pv 2) (Wp.wg_tup (K := K) (n := 3) rfl (pgs_cons (pg_name (i := 3) sc_is_edge.nd rfl (by first | exact .inl rfl | exact .inr rfl)) (pgs_cons (pg_name (i := 4) sc_is_edge.nd rfl (by first | exact .inl rfl | exact .inr rfl)) (pgs_cons (pg_name (i := 5) sc_is_edge.nd rfl (by first | exact .inl rfl | exact .inr rfl)) pgs_nil)))))
  (pss_cons (ps_if (PW.pt (pw_or (pt_not (pt_val (pe_call G_is_between (hr.mono (by decide)) (by rfl) D_is_between.g D_is_between.k D_is_between.b .nil pass0 (pa_cons (pv 3) (pa_cons pe_int (pa_cons (pe_op op_sub (pv 1) pe_int) pa_nil)))))) (pw_or1 (pt_not (pt_val (pe_call G_is_between (hr.mono (by decide)) (by rfl) D_is_between.g D_is_between.k D_is_between.b .nil pass0 (pa_cons (pv 5) (pa_cons pe_int (pa_cons (pe_op op_sub (pv 1) pe_int) pa_nil))))))))) (pss_one (ps_ret pe_bl)) pss_nil)
  (pss_one (ps_ret (pe_call G_is_text (hr.mono (by decide)) (by rfl) D_is_text.g D_is_text.k D_is_text.b .nil pass0 (pa_cons (pv 0) (pa_cons (pv 4) (pa_cons pe_int pa_nil))))))))), ?_⟩
    refine Wp.st (σ' := [some (.str sg), some (.int many), some v, none, none, none]) rfl ?_
    repeat walk_at "W"
    refine ⟨v, d, rfl, hd, fun H1 s1 => ?_⟩
    repeat walk_at "W"
    cases hrow : Wp.row d with
    | none =>
      have e : isEdge sg many d = false := by unfold isEdge; rw [hrow]
      rw [e] at q
      repeat walk_at "W"
      exact q _ s1
    | some xs =>
      obtain ⟨p, ys, rfl, hsq, hal⟩ := Wp.dp_row (Wp.dp_same s1 d _ hd) hrow
      have hsA := Wp.sm_row hsm hrow
      repeat walk_at "W"
      refine Wp.lenU hsq ?_
      repeat walk_at "W"
      have hll := Wp.dps_len hal
      refine Wp.itn (fun h3 => ?_) (fun h3 => ?_)
      · repeat walk_at "W"
        have e : isEdge sg many d = false := by
          unfold isEdge; rw [hrow]
          match xs, hll with
          | [], _ => rfl
          | [_], _ => rfl
          | [_, _], _ => rfl
          | [_, _, _], hll => exact absurd (by rw [hll]; rfl) h3
          | _ :: _ :: _ :: _ :: _, _ => rfl
        rw [e] at q
        exact q _ s1
      · repeat walk_at "W"
        have h3' : ys.length = 3 := by omega
        obtain ⟨a, b, c, rfl⟩ := three h3'
        cases hal with
        | cons d1 hal =>
        rename_i pd r1
        cases hal with
        | cons d2 hal =>
        rename_i xd r2
        cases hal with
        | cons d3 hal =>
        rename_i qd r3
        cases hal
        have e : isEdge sg many d = (Wp.between 0 (many - 1) pd && Wp.between 0 (many - 1) qd && Wp.isText sg 1 xd) := by unfold isEdge; rw [hrow]
        rw [e] at q
        refine Wp.gU hsq rfl ?_
        repeat walk_at "W"
        refine ⟨a, pd, 0, many - 1, rfl, d1, ?_⟩
        repeat walk_at "W"
        refine Wp.itnb (fun e1 => ?_) (fun e1 => ?_)
        · rw [e1] at q
          repeat walk_at "W"
          exact q _ s1
        · repeat walk_at "W"
          refine ⟨c, qd, 0, many - 1, rfl, d3, ?_⟩
          repeat walk_at "W"
          refine Wp.itnb (fun e2 => ?_) (fun e2 => ?_)
          · rw [e1, e2] at q
            repeat walk_at "W"
            exact q _ s1
          · repeat walk_at "W"
            refine ⟨sg, b, xd, 1, rfl, d2, by decide, by decide, Wp.sm_str (Wp.smA_get (i := 1) hsA rfl), fun H2 s2 => ?_⟩
            rw [e1, e2] at q
            exact q _ (s1.trans s2)
def tupOf (d : PyData) : PyData := .tuple ((Wp.row d).getD [])
def notUp : Option PyData → PyData → Bool
  | some p, t => !PySem.W.dataLt p t
  | none, _ => false
/-- the place of the first thing that is no edge or not greater than the one ahead of it -/
def edgeBad (sg : Str) (many : Int) : Option PyData → List PyData → Nat → Option Nat
  | _, [], _ => none
  | prev, d :: r, i => if isEdge sg many d = false then some i else if notUp prev (tupOf d) = true then some i else edgeBad sg many (some (tupOf d)) r (i + 1)
def spEdges (K : PySem.W.Frag) (C : Addr) : Sp := fun vs H Q E => ∃ sg many p ws ds, vs = [.str sg, .int many, .ref p] ∧ (SqL K H p ws ∨ SqT K H p ws) ∧ DpAll K H ws ds ∧ Wp.smA ds = true ∧ ds.length ≤ 400 ∧
  (edgeBad sg many none ds 0 = none → ∀ H' r us, Same H H' → SqT K H' r us → DpAll K H' us (ds.map tupOf) → Q (.ref r) H') ∧
  (∀ i : Nat, edgeBad sg many none ds 0 = some i → ∀ dd H', H dd = none → Same H H' → H' dd = some (.xd [("place", .int i)]) → E (.ref C) (some dd) H')
theorem edge_tri {sg : Str} {many : Int} {d : PyData} (h : isEdge sg many d = true) : ∃ p x q, Wp.row d = some [.int p, .str x, .int q] ∧ 0 ≤ p ∧ p ≤ many - 1 ∧ 0 ≤ q ∧ q ≤ many - 1 ∧ Wp.isText sg 1 (.str x) = true := by
  unfold isEdge at h
  split at h
  · rename_i p x q hr
    simp only [Bool.and_eq_true] at h
    obtain ⟨⟨h1, h2⟩, h3⟩ := h
    cases p with
    | int p =>
      cases q with
      | int q =>
        cases x with
        | str x =>
          simp only [Wp.between, Bool.and_eq_true, decide_eq_true_eq] at h1 h2
          exact ⟨p, x, q, hr, h1.1, h1.2, h2.1, h2.2, h3⟩
        | _ => simp [Wp.isText] at h3
      | _ => simp [Wp.between] at h2
    | _ => simp [Wp.between] at h1
  · cases h
theorem ok_edges (B : Wp.Blt mg) {f fE C fI : Addr} {fd fdE fdI : FuncData} (F : Fun K "edges_of" "edges_of" s_edges_of f fd) (D_is_edge : Wp.Dh K mg "is_edge" fE fdE ["signs", "many", "thing"]) (G_is_edge : FnOk P w K mg base CX0 3 fE fdE ["signs", "many", "thing"] (spEdge K))
    (T_BadAutomaton : Wp.ExT K mg "BadAutomaton" C fI "place") (G_BadAutomaton : FnOk P w K mg base CX0 1 fI fdI ["self", "place"] (Wp.spInit K "place")) (b_BadAutomaton : Binds K fdI ["self", "place"] []) : FnOk P w K mg base (L2.CX P w) 4 f fd ["signs", "many", "things"] (spEdges K C) := by
  refine F.okX sc_edges_of (fun vs H Q E h => ?_) (fun cdv A outer s H vs Q E hr h => ?_)
  · obtain ⟨sg, many, p, ws, ds, rfl, _⟩ := h
    rfl
  · obtain ⟨sg, many, p, ws, ds, rfl, hsq, hal, hsm, hlen, qr, qe⟩ := h
    refine ⟨_, (pss_cons (ps_set (i := 3) sc_edges_of.nd rfl (by first | exact .inl rfl | exact .inr rfl) (pe_lst pa_nil))
  (pss_cons (ps_for (passes_of rfl) rfl (Wp.wi_enum (K := K) (by rfl) B.enumerate (pa_cons (pv 2) pa_nil)) (Wp.wg_tup (K := K) (n := 2) rfl (pgs_cons (pg_name (i := 4) sc_edges_of.nd rfl (by first | exact .inl rfl | exact .inr rfl)) (pgs_cons (pg_name (i := 5) sc_edges_of.nd rfl (by first | exact .inl rfl | exact .inr rfl)) pgs_nil))) (pss_cons (ps_if (pt_not (pt_val (pe_call G_is_edge (hr.mono (by decide)) (by rfl) D_is_edge.g D_is_edge.k D_is_edge.b .nil pass0 (pa_cons (pv 0) (pa_cons (pv 1) (pa_cons (pv 5) pa_nil)))))) (pss_one (ps_raise rfl (takes_of rfl rfl rfl rfl) (pmk_oex T_BadAutomaton.O T_BadAutomaton.iC T_BadAutomaton.tI G_BadAutomaton (hr.mono (by decide)) b_BadAutomaton .nil pass0 (by rfl) T_BadAutomaton.g (pa_cons (pv 4) pa_nil)))) pss_nil)
  (pss_cons (ps_set (i := 6) sc_edges_of.nd rfl (by first | exact .inl rfl | exact .inr rfl) (pe_callTy (Wp.wc_tuple (K := K)) (by rfl) B.tuple (by decide +kernel) (pa_cons (pv 5) pa_nil)))
  (pss_cons (ps_if (PW.pt (pw_and (Wp.wt_truth (K := K) (pv 3) (by intro _; rfl)) (pw_and1 (pt_cmpR (wo_le (K := K) hr.units) (pv 6) (pe_ix (Wp.wx_seq (K := K)) (pv 3) (pe_un un_neg pe_int) (fun _ _ => rfl)) (nomark _))))) (pss_one (ps_raise rfl (takes_of rfl rfl rfl rfl) (pmk_oex T_BadAutomaton.O T_BadAutomaton.iC T_BadAutomaton.tI G_BadAutomaton (hr.mono (by decide)) b_BadAutomaton .nil pass0 (by rfl) T_BadAutomaton.g (pa_cons (pv 4) pa_nil)))) pss_nil)
  (pss_one (ps_expr (Wp.wbm (K := K) (pe_bm PySem.F.plainAttrs_list PySem.F.slot_list_append PySem.F.type_list_append mt_append (pv 3) (pa_cons (pv 6) pa_nil)))))))))
  (pss_one (ps_ret (pe_callTy (Wp.wc_tuple (K := K)) (by rfl) B.tuple (by decide +kernel) (pa_cons (pv 3) pa_nil)))))), ?_⟩
    refine Wp.st (σ' := [some (.str sg), some (.int many), some (.ref p), none, none, none, none]) rfl ?_
    repeat walk_at "W"
    intro fa hfa
    have hwl := Wp.dps_len hal
    have sm0 := Wp.same_upd (p := fa) (o := .lst []) hfa
    repeat walk_at "W"
    refine ⟨p, ws, rfl, Wp.enumU hsq sm0 (fun i σ1 H1 => ∃ x1 x2 x3 us prev, σ1 = [some (.str sg), some (.int many), some (.ref p), some (.ref fa), x1, x2, x3] ∧ Same H H1 ∧ H1 fa = some (.lst us) ∧ DpAll K H1 us ((ds.take i).map tupOf) ∧
      Wp.noLA ((ds.take i).map tupOf) = true ∧ prev = ((ds.take i).map tupOf).getLast? ∧ (∀ t, prev = some t → ∃ a x b, t = Wp.tri a x b) ∧ edgeBad sg many none ds 0 = edgeBad sg many prev (ds.drop i) i) ⟨_, _, _, [], none, rfl, sm0, upd_same, .nil, rfl, rfl, (fun _ z => nomatch z), rfl⟩ (fun i σ1 H1 ⟨_, _, _, _, _, _, h, _⟩ => h) ?_ ?_⟩
    · rintro i x σ1 H1 T hx ⟨x1, x2, x3, us, prev, rfl, s1, hf, hus, hnl, hpv, htr, he⟩ hT
      obtain ⟨d, hdi, hdx⟩ := Wp.dps_get hal hx
      have smT := Wp.same_upd (p := T) (o := .tup [.int (i : Nat), x]) hT
      have hd1 : ds.drop i = d :: ds.drop (i + 1) := by
        obtain ⟨hl, hx⟩ := List.getElem?_eq_some_iff.mp hdi
        rw [List.drop_eq_getElem_cons hl, hx]
      have hil : i < ds.length := (List.getElem?_eq_some_iff.mp hdi).1
      rw [hd1] at he
      refine Wp.gt (SqT.of upd_same) rfl ?_
      repeat walk_at "W"
      refine ⟨sg, many, x, d, rfl, Wp.dp_same (s1.trans smT) d x hdx, Wp.smA_get hsm hdi, fun H2 s2 => ?_⟩
      have sH2 : Same H H2 := (s1.trans smT).trans s2
      repeat walk_at "W"
      refine Wp.itnb (fun e1 => ?_) (fun e1 => ?_)
      · repeat walk_at "W"
        refine Wp.mki T_BadAutomaton fun dd H' h1 h2 h3 => qe i ?_ dd H' (sH2.free h1) (sH2.trans h2) h3
        rw [he]
        show (if isEdge sg many d = false then some i else _) = some i
        rw [if_pos e1]
      · obtain ⟨pa, xa, qa, hrow, hp0, hp1, hq0, hq1, hxt⟩ := edge_tri e1
        obtain ⟨t0, vs0, rfl, hsq0, hal0⟩ := Wp.dp_row (Wp.dp_same sH2 d _ hdx) hrow
        have htup : tupOf d = Wp.tri pa xa qa := by unfold tupOf; rw [hrow]; rfl
        repeat walk_at "W"
        refine Wp.tupU hsq0 fun t H3 s3 hst => ?_
        have sH3 : Same H H3 := sH2.trans s3
        have hdt : Dp K H3 (.ref t) (tupOf d) := by rw [htup]; exact .tup hst (Wp.dps_same s3 _ _ hal0)
        have hf3 : H3 fa = some (.lst us) := s3 _ _ (s2 _ _ (smT _ _ hf))
        have hus3 : DpAll K H3 us ((ds.take i).map tupOf) := Wp.dps_same ((smT.trans s2).trans s3) _ _ hus
        have hul : us.length < sizeLine := by
          have := Wp.dps_len hus3
          rw [List.length_map, List.length_take] at this
          exact small1000 (by omega)
        have htk : (ds.take (i + 1)).map tupOf = (ds.take i).map tupOf ++ [tupOf d] := by
          rw [List.take_add_one, hdi, List.map_append]; rfl
        have hstep : notUp prev (tupOf d) = false → edgeBad sg many none ds 0 = edgeBad sg many (some (tupOf d)) (ds.drop (i + 1)) (i + 1) := fun hn => by
          rw [he]
          show (if isEdge sg many d = false then some i else if notUp prev (tupOf d) = true then some i else _) = _
          rw [if_neg (by rw [e1]; simp), if_neg (by rw [hn]; simp)]
        have fin : ∀ x1 x2 x3 : Option V, notUp prev (tupOf d) = false → ∃ x1' x2' x3' us' prev', ([some (.str sg), some (.int many), some (.ref p), some (.ref fa), x1, x2, x3] : L2.St) = [some (.str sg), some (.int many), some (.ref p), some (.ref fa), x1', x2', x3'] ∧ Same H (upd H3 fa (.lst (us ++ [.ref t]))) ∧ (upd H3 fa (.lst (us ++ [.ref t]))) fa = some (.lst us') ∧ DpAll K (upd H3 fa (.lst (us ++ [.ref t]))) us' ((ds.take (i + 1)).map tupOf) ∧
            Wp.noLA ((ds.take (i + 1)).map tupOf) = true ∧ prev' = ((ds.take (i + 1)).map tupOf).getLast? ∧ (∀ t, prev' = some t → ∃ a x b, t = Wp.tri a x b) ∧ edgeBad sg many none ds 0 = edgeBad sg many prev' (ds.drop (i + 1)) (i + 1) := fun x1 x2 x3 hn => by
          have hnt : Wp.noLA [tupOf d] = true := by rw [htup]; rfl
          refine ⟨x1, x2, x3, us ++ [.ref t], some (tupOf d), rfl, fun b o hb => ?_, upd_same, ?_, ?_, ?_, ?_, hstep hn⟩
          · rw [upd_ne (ne_of_none hb hfa)]; exact sH3 _ _ hb
          · rw [htk]
            exact Wp.dps_append (Wp.dps_upd hf3 _ _ hnl hus3) (Wp.dps_upd hf3 [tupOf d] _ hnt (.cons hdt .nil))
          · rw [htk]; exact Wp.noLA_append hnl hnt
          · rw [htk, List.getLast?_append]; rfl
          · intro t' e'
            cases e'
            exact ⟨pa, xa, qa, htup⟩
        repeat walk_at "W"
        refine Wp.truL (SqL.of hf3) ?_
        cases hus' : us with
        | nil =>
          have hpn : prev = none := by
            rw [hpv]
            have := Wp.dps_len hus3
            rw [hus'] at this
            rw [List.length_eq_zero_iff.mp this.symm]; rfl
          repeat walk_at "W"
          refine Wp.tyl hf3 ?_
          repeat walk_at "W"
          refine Wp.app hf3 hul ?_
          repeat walk_at "W"
          exact fin _ _ _ (by rw [hpn]; rfl)
        | cons u0 us0 =>
          obtain ⟨pt, hpt⟩ : ∃ pt, prev = some pt := by
            rw [hpv]
            have := Wp.dps_len hus3
            rw [hus', List.length_cons] at this
            cases hL : (ds.take i).map tupOf with
            | nil => rw [hL] at this; simp at this
            | cons a b => exact ⟨(a :: b).getLast (List.cons_ne_nil _ _), by rw [List.getLast?_eq_getLast]⟩
          obtain ⟨us1, v1, hu1, hdv⟩ := Wp.dps_last hus3 (hpv.symm.trans hpt)
          obtain ⟨a', x', b', hpt'⟩ := htr _ hpt
          rw [← hus']
          refine Wp.itb (fun _ => ?_) (fun hh => absurd hh (by rw [hus']; simp))
          repeat walk_at "W"
          refine Wp.ixl (SqL.of hf3) (by rw [hu1]; exact atI_last _ _) ?_
          refine Wp.leD ⟨tupOf d, pt, hdt, hdv, by rw [htup, hpt']; exact Wp.tri_alike, by rw [htup]; simp, by rw [htup]; exact Wp.tri_depth, ?_⟩
          repeat walk_at "W"
          refine Wp.itb (fun e2 => ?_) (fun e2 => ?_)
          · repeat walk_at "W"
            refine Wp.mki T_BadAutomaton fun dd H' h1 h2 h3 => qe i ?_ dd H' (sH3.free h1) (sH3.trans h2) h3
            rw [he]
            show (if isEdge sg many d = false then some i else if notUp prev (tupOf d) = true then some i else _) = some i
            rw [if_neg (by rw [e1]; simp), if_pos (by rw [hpt]; exact e2)]
          · repeat walk_at "W"
            refine Wp.tyl hf3 ?_
            repeat walk_at "W"
            refine Wp.app hf3 hul ?_
            repeat walk_at "W"
            exact fin _ _ _ (by rw [hpt]; exact e2)
    · rintro σ1 H1 ⟨x1, x2, x3, us, prev, rfl, s1, hf, hus, hnl, hpv, htr, he⟩
      rw [hwl, List.drop_length] at he
      rw [hwl, List.take_length] at hus
      repeat walk_at "W"
      refine Wp.tupL (SqL.of hf) fun l hl => ?_
      have sl := Wp.same_upd (p := l) (o := .tup us) hl
      exact qr he _ l us (s1.trans sl) (SqT.of upd_same) (Wp.dps_same sl _ _ hus)
end
end K01
set_option Elab.async false
set_option linter.all false
set_option maxRecDepth 100000
namespace K01
open PySem PySem.Spec PyProof.Rows L2
open Wp (wo_lt wo_le wo_gt wo_ge wo_eq wo_ne wo_in wo_nin wo_add wo_mul op_shlB ws_any wc_int wc_isi u65)
abbrev s_ends_of : Stmt := topS 18
abbrev N_ends_of : List Str := ["many", "things", "shift", "before", "place", "state"]
theorem sc_ends_of : FnScope N_ends_of ["many", "things", "shift"] (defScope s_ends_of) := ⟨rfl, rfl, rfl, by decide +kernel, rfl, by decide +kernel, by decide +kernel⟩
abbrev s_automaton_of : Stmt := topS 16
abbrev N_automaton_of : List Str := ["signs", "thing", "many", "edges", "ends"]
theorem sc_automaton_of : FnScope N_automaton_of ["signs", "thing"] (defScope s_automaton_of) := ⟨rfl, rfl, rfl, by decide +kernel, rfl, by decide +kernel, by decide +kernel⟩
abbrev s_checked_automaton : Stmt := topS 20
abbrev N_checked_automaton : List Str := ["signs", "thing"]
theorem sc_checked_automaton : FnScope N_checked_automaton ["signs", "thing"] (defScope s_checked_automaton) := ⟨rfl, rfl, rfl, by decide +kernel, rfl, by decide +kernel, by decide +kernel⟩
local macro_rules | `(tactic| walk_at "W") => `(tactic| first
  | (with_reducible first
    | refine Wp.seq ?_ | refine Wp.asg ?_ | refine Wp.ret ?_ | refine Wp.retN ?_ | refine Wp.drop ?_ | refine Wp.nxt ?_ | refine Wp.ifs ?_ | refine Wp.gname ?_
    | refine Wp.op ?_ | refine Wp.un ?_ | refine Wp.tst ?_ | refine Wp.tb' ?_ | refine Wp.tnot ?_ | refine Wp.tand ?_ | refine Wp.tor ?_ | refine Wp.tandV ?_ | refine Wp.torV ?_ | refine Wp.tnotV ?_ | refine Wp.tif ?_ | refine Wp.tchain ?_
    | refine Wp.cb ?_ | refine Wp.call ?_ | refine Wp.cons ?_ | refine Wp.nil ?_ | refine Wp.gsub ?_ | refine Wp.cst ?_ | refine Wp.i0 ?_ | refine Wp.int1 ?_ | refine Wp.eb ?_ | refine Wp.ei ?_
    | refine Wp.gnil ?_ | refine Wp.gcons ?_ | refine Wp.mko ?_ | refine Wp.bm ?_ | refine Wp.ienum ?_ | refine Wp.tru ?_ | refine Wp.u1 ?_ | refine Wp.for_ ?_ | refine Wp.lc ?_ | refine Wp.istr ?_ | refine Wp.ilist ?_ | refine Wp.itup ?_ | refine Wp.irng1 ?_ | refine Wp.yes ?_ | refine Wp.es ?_ | refine Wp.er ?_ | refine Wp.sl ?_ | refine Wp.nopart ?_ | refine Wp.part ?_ | refine Wp.lst ?_ | refine Wp.tup ?_
    | refine Wp.ltI ?_ | refine Wp.leI ?_ | refine Wp.leS ?_ | refine Wp.inSg ?_ | refine Wp.gtI ?_ | refine Wp.geI ?_ | refine Wp.eqI ?_ | refine Wp.neI ?_ | refine Wp.addI ?_ | refine Wp.ltS ?_ | refine Wp.eqS ?_ | refine Wp.neS ?_)
  | ((with_reducible refine' Wp.var ?hv ?_); (case hv => exact rfl))
  | ((with_reducible refine' Wp.ixl ?hs ?he ?_); (case hs => first | exact SqL.of upd_same | exact SqL.of (by assumption) | assumption); (case he => exact rfl))
  | ((with_reducible refine' Wp.setl ?hs ?he ?_); (case hs => first | exact upd_same | assumption); (case he => exact rfl))
  | ((with_reducible refine' Wp.modP ?hs ?_); (case hs => first | decide | omega))
  | ((with_reducible refine' Wp.divN ?hs ?ht ?_); (case hs => first | decide | omega); (case ht => first | decide | omega))
  | ((with_reducible refine' Wp.mulM ?hs ?ht ?_); (case hs => decide); (case ht => decide))
  | ((with_reducible refine' Wp.mulL ?hs ?_); (case hs => omega))
  | ((with_reducible refine' Wp.mulR ?hs ?_); (case hs => omega))
  | ((with_reducible refine' Wp.powS ?hs ?_); (case hs => decide))
  | ((with_reducible refine' Wp.shr ?hs ?_); (case hs => decide))
  | ((with_reducible refine' Wp.szl ?hs ?_); (case hs => first | decide | (simp; done)))
  | ((with_reducible refine' Wp.lenL ?hs ?_); (case hs => first | exact SqL.of upd_same | exact SqL.of (by assumption) | assumption))
  | ((with_reducible refine' Wp.lenT ?hs ?_); (case hs => first | exact SqT.of upd_same | exact SqT.of (by assumption) | assumption))
  | ((with_reducible refine' Wp.iteC ?hs ?_); (case hs => exact rfl)) | ((with_reducible refine' Wp.iteD ?hs ?_); (case hs => exact Bool.false_ne_true))
  | ((with_reducible refine' Wp.wp ?hs ?_); (case hs => rfl))
  | (with_reducible first | refine Wp.abs ?_ | refine Wp.max2 ?_ | refine Wp.min2 ?_)
  | ((with_reducible refine' Wp.sll ?hs ?_); (case hs => first | exact SqL.of upd_same | exact SqL.of (by assumption) | assumption)))
local macro_rules | `(tactic| walk_at "KQ") => `(tactic| first
  | exact Wp.kq "int" rfl (by decide +kernel) | exact Wp.kq "bool" rfl (by decide +kernel) | exact Wp.kq "str" rfl (by decide +kernel) | exact Wp.kq "list" rfl (by decide +kernel)
  | exact Wp.kq "tuple" rfl (by decide +kernel) | exact Wp.kq "NoneType" rfl (by decide +kernel) | exact Wp.kq "dict" rfl (by decide +kernel))

section
variable {P : Program} {w : World} {K : PySem.W.Frag} {mg : Str → Option Value} {base : Heap}
def valOf : PyData → Int
  | .int i => i
  | _ => 0
def endBad (many : Int) : Int → List PyData → Nat → Option Nat
  | _, [], _ => none
  | b, d :: r, i => if Wp.between (b + 1) (many - 1) d = false then some i else endBad many (valOf d) r (i + 1)
def spEnds (K : PySem.W.Frag) (C : Addr) : Sp := fun vs H Q E => ∃ many p shift ws ds, vs = [.int many, .ref p, .int shift] ∧ (SqL K H p ws ∨ SqT K H p ws) ∧ DpAll K H ws ds ∧
  (endBad many (-1) ds 0 = none → ∀ H' r us, Same H H' → SqT K H' r us → DpAll K H' us ds → Q (.ref r) H') ∧
  (∀ i : Nat, endBad many (-1) ds 0 = some i → ∀ dd H', H dd = none → Same H H' → H' dd = some (.xd [("place", .int (shift + i))]) → E (.ref C) (some dd) H')
theorem ok_ends (B : Wp.Blt mg) {f fB C fI : Addr} {fd fdB fdI : FuncData} (F : Fun K "ends_of" "ends_of" s_ends_of f fd) (D_is_between : Wp.Dh K mg "is_between" fB fdB ["thing", "low", "high"]) (G_is_between : FnOk P w K mg base CX0 2 fB fdB ["thing", "low", "high"] (spBetween K))
    (T_BadAutomaton : Wp.ExT K mg "BadAutomaton" C fI "place") (G_BadAutomaton : FnOk P w K mg base CX0 1 fI fdI ["self", "place"] (Wp.spInit K "place")) (b_BadAutomaton : Binds K fdI ["self", "place"] []) : FnOk P w K mg base (L2.CX P w) 4 f fd ["many", "things", "shift"] (spEnds K C) := by
  refine F.okX sc_ends_of (fun vs H Q E h => ?_) (fun cdv A outer s H vs Q E hr h => ?_)
  · obtain ⟨many, p, shift, ws, ds, rfl, _⟩ := h
    rfl
  · obtain ⟨many, p, shift, ws, ds, rfl, hsq, hal, qr, qe⟩ := h
    refine ⟨_, (pss_cons (ps_set (i := 3) sc_ends_of.nd rfl (by first | exact .inl rfl | exact .inr rfl) (pe_un un_neg pe_int))
  (pss_cons (ps_for (passes_of rfl) rfl (Wp.wi_enum (K := K) (by rfl) B.enumerate (pa_cons (pv 1) pa_nil)) (Wp.wg_tup (K := K) (n := 2) rfl (pgs_cons (pg_name (i := 4) sc_ends_of.nd rfl (by first | exact .inl rfl | exact .inr rfl)) (pgs_cons (pg_name (i := 5) sc_ends_of.nd rfl (by first | exact .inl rfl | exact .inr rfl)) pgs_nil))) (pss_cons (ps_if (pt_not (pt_val (pe_call G_is_between (hr.mono (by decide)) (by rfl) D_is_between.g D_is_between.k D_is_between.b .nil pass0 (pa_cons (pv 5) (pa_cons (pe_op (wo_add (K := K)) (pv 3) pe_int) (pa_cons (pe_op op_sub (pv 0) pe_int) pa_nil)))))) (pss_one (ps_raise rfl (takes_of rfl rfl rfl rfl) (pmk_oex T_BadAutomaton.O T_BadAutomaton.iC T_BadAutomaton.tI G_BadAutomaton (hr.mono (by decide)) b_BadAutomaton .nil pass0 (by rfl) T_BadAutomaton.g (pa_cons (pe_op (wo_add (K := K)) (pv 2) (pv 4)) pa_nil)))) pss_nil)
  (pss_one (ps_set (i := 3) sc_ends_of.nd rfl (by first | exact .inl rfl | exact .inr rfl) (pv 5)))))
  (pss_one (ps_ret (pe_callTy (Wp.wc_tuple (K := K)) (by rfl) B.tuple (by decide +kernel) (pa_cons (pv 1) pa_nil)))))), ?_⟩
    refine Wp.st (σ' := [some (.int many), some (.ref p), some (.int shift), none, none, none]) rfl ?_
    repeat walk_at "W"
    have hwl := Wp.dps_len hal
    refine ⟨p, ws, rfl, Wp.enumU hsq (Same.refl _) (fun i σ1 H1 => ∃ (b : Int) (x1 x2 : Option V), σ1 = [some (.int many), some (.ref p), some (.int shift), some (.int b), x1, x2] ∧ Same H H1 ∧ endBad many (-1) ds 0 = endBad many b (ds.drop i) i) ⟨_, _, _, rfl, Same.refl _, rfl⟩ (fun i σ1 H1 ⟨_, _, _, _, h, _⟩ => h) ?_ ?_⟩
    · rintro i x σ1 H1 T hx ⟨b, x1, x2, rfl, s1, he⟩ hT
      obtain ⟨d, hdi, hdx⟩ := Wp.dps_get hal hx
      have smT := Wp.same_upd (p := T) (o := .tup [.int (i : Nat), x]) hT
      have hd1 : ds.drop i = d :: ds.drop (i + 1) := by
        obtain ⟨hl, hx⟩ := List.getElem?_eq_some_iff.mp hdi
        rw [List.drop_eq_getElem_cons hl, hx]
      rw [hd1] at he
      have sT := s1.trans smT
      refine Wp.gt (SqT.of upd_same) rfl ?_
      repeat walk_at "W"
      refine ⟨x, d, b + 1, many - 1, rfl, Wp.dp_same sT d x hdx, ?_⟩
      repeat walk_at "W"
      refine Wp.itnb (fun e1 => ?_) (fun e1 => ?_)
      · repeat walk_at "W"
        refine Wp.mki T_BadAutomaton fun dd H' h1 h2 h3 => qe i ?_ dd H' (sT.free h1) (sT.trans h2) h3
        rw [he]
        show (if Wp.between (b + 1) (many - 1) d = false then some i else _) = some i
        rw [if_pos e1]
      · cases d with
        | int z =>
          cases hdx
          repeat walk_at "W"
          refine ⟨z, _, _, rfl, sT, he.trans ?_⟩
          show (if Wp.between (b + 1) (many - 1) (.int z) = false then some i else _) = _
          rw [if_neg (by rw [e1]; simp)]
          rfl
        | _ => simp [Wp.between] at e1
    · rintro σ1 H1 ⟨b, x1, x2, rfl, s1, he⟩
      rw [hwl, List.drop_length] at he
      repeat walk_at "W"
      refine Wp.tupU (Wp.sqU_same s1 hsq) fun t H3 s3 hst => ?_
      exact qr he _ t ws (s1.trans s3) hst (Wp.dps_same (s1.trans s3) _ _ hal)
def autoOf (sg : Str) (d : PyData) : Except Int PyData := match Wp.row d with
  | some [m, e, n] => if Wp.between 1 40 m = true ∧ (Wp.row e).isSome = true ∧ (Wp.row n).isSome = true ∧ ((Wp.row e).getD []).length ≤ 400 then
      match edgeBad sg (valOf m) none ((Wp.row e).getD []) 0 with
      | some i => .error (i : Nat)
      | none => match endBad (valOf m) (-1) ((Wp.row n).getD []) 0 with
        | some i => .error ((((Wp.row e).getD []).length : Int) + (i : Nat))
        | none => .ok (.tuple [m, .tuple (((Wp.row e).getD []).map tupOf), .tuple ((Wp.row n).getD [])])
    else .error (-1)
  | _ => .error (-1)
def spAuto (K : PySem.W.Frag) (C : Addr) : Sp := fun vs H Q E => ∃ sg v d, vs = [.str sg, v] ∧ Dp K H v d ∧ Wp.sm d = true ∧
  (∀ r, autoOf sg d = .ok r → ∀ H' u, Same H H' → Dp K H' u r → Q u H') ∧
  (∀ i : Int, autoOf sg d = .error i → ∀ dd H', H dd = none → Same H H' → H' dd = some (.xd [("place", .int i)]) → E (.ref C) (some dd) H')
theorem ok_auto (B : Wp.Blt mg) (c_MOST_STATES : ∃ t, mg "MOST_STATES" = some (.int 40 t)) (c_MOST_EDGES : ∃ t, mg "MOST_EDGES" = some (.int 400 t)) {f fR fB fE fN C fI : Addr} {fd fdR fdB fdE fdN fdI : FuncData} (F : Fun K "automaton_of" "automaton_of" s_automaton_of f fd)
    (D_is_row : Wp.Dh K mg "is_row" fR fdR ["thing"]) (G_is_row : FnOk P w K mg base CX0 1 fR fdR ["thing"] (spRow K))
    (D_is_between : Wp.Dh K mg "is_between" fB fdB ["thing", "low", "high"]) (G_is_between : FnOk P w K mg base CX0 2 fB fdB ["thing", "low", "high"] (spBetween K))
    (D_edges_of : Wp.Dh K mg "edges_of" fE fdE ["signs", "many", "things"]) (G_edges_of : FnOk P w K mg base (L2.CX P w) 4 fE fdE ["signs", "many", "things"] (spEdges K C))
    (D_ends_of : Wp.Dh K mg "ends_of" fN fdN ["many", "things", "shift"]) (G_ends_of : FnOk P w K mg base (L2.CX P w) 4 fN fdN ["many", "things", "shift"] (spEnds K C))
    (T_BadAutomaton : Wp.ExT K mg "BadAutomaton" C fI "place") (G_BadAutomaton : FnOk P w K mg base CX0 1 fI fdI ["self", "place"] (Wp.spInit K "place")) (b_BadAutomaton : Binds K fdI ["self", "place"] []) : FnOk P w K mg base (L2.CX P w) 5 f fd ["signs", "thing"] (spAuto K C) := by
  obtain ⟨tk1, c_MOST_STATES⟩ := c_MOST_STATES
  obtain ⟨tk2, c_MOST_EDGES⟩ := c_MOST_EDGES
  refine F.okX sc_automaton_of (fun vs H Q E h => ?_) (fun cdv A outer s H vs Q E hr h => ?_)
  · obtain ⟨sg, v, d, rfl, _⟩ := h
    rfl
  · obtain ⟨sg, v, d, rfl, hd, hsm, qr, qe⟩ := h
    refine ⟨_, (pss_cons (ps_if (PW.pt (pw_or (pt_not (pt_val (pe_call G_is_row (hr.mono (by decide)) (by rfl) D_is_row.g D_is_row.k D_is_row.b .nil pass0 (pa_cons (pv 1) pa_nil)))) (pw_or1 (pt_cmpR (wo_ne (K := K) hr.units) (pe_callB (Wp.wc_len (K := K)) (by rfl) B.len (by decide +kernel) (pa_cons (pv 1) pa_nil)) pe_int (nomark _))))) (pss_one (ps_raise rfl (takes_of rfl rfl rfl rfl) (pmk_oex T_BadAutomaton.O T_BadAutomaton.iC T_BadAutomaton.tI G_BadAutomaton (hr.mono (by decide)) b_BadAutomaton .nil pass0 (by rfl) T_BadAutomaton.g (pa_cons (pe_un un_neg pe_int) pa_nil)))) pss_nil)
  (pss_cons (ps_asg (pv 1) (Wp.wg_tup (K := K) (n := 3) rfl (pgs_cons (pg_name (i := 2) sc_automaton_of.nd rfl (by first | exact .inl rfl | exact .inr rfl)) (pgs_cons (pg_name (i := 3) sc_automaton_of.nd rfl (by first | exact .inl rfl | exact .inr rfl)) (pgs_cons (pg_name (i := 4) sc_automaton_of.nd rfl (by first | exact .inl rfl | exact .inr rfl)) pgs_nil)))))
  (pss_cons (ps_if (PW.pt (pw_or (pt_not (pt_val (pe_call G_is_between (hr.mono (by decide)) (by rfl) D_is_between.g D_is_between.k D_is_between.b .nil pass0 (pa_cons (pv 2) (pa_cons pe_int (pa_cons (pe_glob (v := .int 40) (by rfl) c_MOST_STATES ⟨_, rfl⟩) pa_nil)))))) (pw_or (pt_not (pt_val (pe_call G_is_row (hr.mono (by decide)) (by rfl) D_is_row.g D_is_row.k D_is_row.b .nil pass0 (pa_cons (pv 3) pa_nil)))) (pw_or1 (pt_not (pt_val (pe_call G_is_row (hr.mono (by decide)) (by rfl) D_is_row.g D_is_row.k D_is_row.b .nil pass0 (pa_cons (pv 4) pa_nil)))))))) (pss_one (ps_raise rfl (takes_of rfl rfl rfl rfl) (pmk_oex T_BadAutomaton.O T_BadAutomaton.iC T_BadAutomaton.tI G_BadAutomaton (hr.mono (by decide)) b_BadAutomaton .nil pass0 (by rfl) T_BadAutomaton.g (pa_cons (pe_un un_neg pe_int) pa_nil)))) pss_nil)
  (pss_cons (ps_if (pt_cmpR wo_gt (pe_callB (Wp.wc_len (K := K)) (by rfl) B.len (by decide +kernel) (pa_cons (pv 3) pa_nil)) (pe_glob (v := .int 400) (by rfl) c_MOST_EDGES ⟨_, rfl⟩) (nomark _)) (pss_one (ps_raise rfl (takes_of rfl rfl rfl rfl) (pmk_oex T_BadAutomaton.O T_BadAutomaton.iC T_BadAutomaton.tI G_BadAutomaton (hr.mono (by decide)) b_BadAutomaton .nil pass0 (by rfl) T_BadAutomaton.g (pa_cons (pe_un un_neg pe_int) pa_nil)))) pss_nil)
  (pss_one (ps_ret (pe_tup (pa_cons (pv 2) (pa_cons (pe_call G_edges_of (hr.mono (by decide)) (by rfl) D_edges_of.g D_edges_of.k D_edges_of.b .nil (passes_call (takes_of rfl rfl rfl rfl) (fun _ _ _ _ h => h)) (pa_cons (pv 0) (pa_cons (pv 2) (pa_cons (pv 3) pa_nil)))) (pa_cons (pe_call G_ends_of (hr.mono (by decide)) (by rfl) D_ends_of.g D_ends_of.k D_ends_of.b .nil (passes_call (takes_of rfl rfl rfl rfl) (fun _ _ _ _ h => h)) (pa_cons (pv 2) (pa_cons (pv 4) (pa_cons (pe_callB (Wp.wc_len (K := K)) (by rfl) B.len (by decide +kernel) (pa_cons (pv 3) pa_nil)) pa_nil)))) pa_nil)))))))))), ?_⟩
    refine Wp.st (σ' := [some (.str sg), some v, none, none, none]) rfl ?_
    have bad : ∀ H1, Same H H1 → autoOf sg d = .error (-1) → Wp.MkI C (Wp.spInit K "place") [] (fun cls d H' => E cls d H') [.int (-1)] H1 := fun H1 s1 hb => Wp.mki T_BadAutomaton fun dd H' h1 h2 h3 => qe _ hb dd H' (s1.free h1) (s1.trans h2) h3
    repeat walk_at "W"
    refine ⟨v, d, rfl, hd, fun H1 s1 => ?_⟩
    repeat walk_at "W"
    cases hrow : Wp.row d with
    | none =>
      repeat walk_at "W"
      exact bad _ s1 (by unfold autoOf; rw [hrow])
    | some xs =>
      obtain ⟨p, ys, rfl, hsq, hal⟩ := Wp.dp_row (Wp.dp_same s1 d _ hd) hrow
      have hsA := Wp.sm_row hsm hrow
      have hll := Wp.dps_len hal
      repeat walk_at "W"
      refine Wp.lenU hsq ?_
      repeat walk_at "W"
      refine Wp.itn (fun h3 => ?_) (fun h3 => ?_)
      · repeat walk_at "W"
        refine bad _ s1 ?_
        unfold autoOf; rw [hrow]
        match xs, hll with
        | [], _ => rfl
        | [_], _ => rfl
        | [_, _], _ => rfl
        | [_, _, _], hll => exact absurd (by rw [hll]; rfl) h3
        | _ :: _ :: _ :: _ :: _, _ => rfl
      · repeat walk_at "W"
        obtain ⟨a, b, c, rfl⟩ := three (show ys.length = 3 by omega)
        cases hal with
        | cons d1 hal =>
        rename_i md r1
        cases hal with
        | cons d2 hal =>
        rename_i ed r2
        cases hal with
        | cons d3 hal =>
        rename_i nd r3
        cases hal
        refine Wp.gU hsq rfl ?_
        repeat walk_at "W"
        refine ⟨a, md, 1, 40, rfl, d1, ?_⟩
        repeat walk_at "W"
        refine Wp.itnb (fun e1 => ?_) (fun e1 => ?_)
        · repeat walk_at "W"
          refine bad _ s1 ?_
          unfold autoOf; rw [hrow]
          exact if_neg fun z => by rw [e1] at z; cases z.1
        cases md with
        | int m =>
          cases d1
          repeat walk_at "W"
          refine ⟨b, ed, rfl, d2, fun H2 s2 => ?_⟩
          repeat walk_at "W"
          refine Wp.itnb (fun e2 => ?_) (fun e2 => ?_)
          · repeat walk_at "W"
            refine bad _ (s1.trans s2) ?_
            unfold autoOf; rw [hrow]
            exact if_neg fun z => by rw [e2] at z; cases z.2.1
          repeat walk_at "W"
          refine ⟨c, nd, rfl, Wp.dp_same s2 _ _ d3, fun H3 s3 => ?_⟩
          repeat walk_at "W"
          refine Wp.itnb (fun e3 => ?_) (fun e3 => ?_)
          · repeat walk_at "W"
            refine bad _ ((s1.trans s2).trans s3) ?_
            unfold autoOf; rw [hrow]
            exact if_neg fun z => by rw [e3] at z; cases z.2.2.1
          obtain ⟨es, hes⟩ := Option.isSome_iff_exists.mp e2
          obtain ⟨ns, hns⟩ := Option.isSome_iff_exists.mp e3
          have s13 := (s1.trans s2).trans s3
          obtain ⟨pe, ye, rfl, hsqe, hale⟩ := Wp.dp_row (Wp.dp_same (s2.trans s3) _ _ d2) hes
          obtain ⟨pn, yn, rfl, hsqn, haln⟩ := Wp.dp_row (Wp.dp_same (s2.trans s3) _ _ d3) hns
          have hle := Wp.dps_len hale
          repeat walk_at "W"
          refine Wp.lenU hsqe ?_
          repeat walk_at "W"
          refine Wp.itd (fun e4 => ?_) (fun e4 => ?_)
          · repeat walk_at "W"
            refine bad _ s13 ?_
            unfold autoOf; rw [hrow]
            refine if_neg fun z => ?_
            have := z.2.2.2
            rw [hes] at this
            simp at this
            omega
          have h400 : es.length ≤ 400 := by omega
          have ea : autoOf sg d = (match edgeBad sg m none es 0 with
              | some i => .error (i : Nat)
              | none => match endBad m (-1) ns 0 with
                | some i => .error ((es.length : Int) + (i : Nat))
                | none => .ok (.tuple [.int m, .tuple (es.map tupOf), .tuple ns])) := by
            unfold autoOf; rw [hrow]
            refine (if_pos ⟨e1, e2, e3, ?_⟩).trans ?_
            · rw [hes, hns]; rfl
            · rw [hes]; exact h400
          repeat walk_at "W"
          refine ⟨sg, m, pe, ye, es, rfl, hsqe, hale, Wp.sm_row (Wp.smA_get (i := 1) hsA rfl) hes, h400, fun hb H4 r us s4 hst hua => ?_, fun i hb dd H' h1 h2 h3 => qe i (by rw [ea, hb]) dd H' (s13.free h1) (s13.trans h2) h3⟩
          repeat walk_at "W"
          refine Wp.lenU (Wp.sqU_same s4 hsqe) ?_
          repeat walk_at "W"
          refine ⟨m, pn, ye.length, yn, ns, rfl, Wp.sqU_same s4 hsqn, Wp.dps_same s4 _ _ haln, fun hb2 H5 r2 us2 s5 hst2 hua2 => ?_, fun i hb2 dd H' h1 h2 h3 => ?_⟩
          · repeat walk_at "W"
            intro q hq
            have sq := Wp.same_upd (p := q) (o := .tup [.int m, .ref r, .ref r2]) hq
            refine qr _ (by rw [ea, hb, hb2]) _ _ (((s13.trans s4).trans s5).trans sq) ?_
            refine .tup (SqT.of upd_same) (.cons (.int m) (.cons (.tup (Wp.sameT (s5.trans sq) hst) (Wp.dps_same (s5.trans sq) _ _ hua)) (.cons (.tup (Wp.sameT sq hst2) (Wp.dps_same sq _ _ hua2)) .nil)))
          · refine qe _ (by rw [ea, hb, hb2]) dd H' ((s13.trans s4).free h1) ((s13.trans s4).trans h2) ?_
            rw [← hle]
            exact h3
        | _ => simp [Wp.between] at e1
def spChecked (K : PySem.W.Frag) (CS CA : Addr) : Sp := fun vs H Q E => ∃ sv sd v d, vs = [sv, v] ∧ Dp K H sv sd ∧ Dp K H v d ∧ (∀ z, sd = .str z → z.length ≤ 16777216) ∧ (goodSigns sd = true → Wp.sm d = true) ∧
  (goodSigns sd = false → ∀ dd H', H dd = none → Same H H' → H' dd = some (.xd [("thing", sv)]) → E (.ref CS) (some dd) H') ∧
  (∀ sg, sd = .str sg → goodSigns sd = true → (∀ r, autoOf sg d = .ok r → ∀ H' u, Same H H' → Dp K H' u r → Q u H') ∧
    (∀ i : Int, autoOf sg d = .error i → ∀ dd H', H dd = none → Same H H' → H' dd = some (.xd [("place", .int i)]) → E (.ref CA) (some dd) H'))
theorem ok_checked (B : Wp.Blt mg) {f fS fA CS CA : Addr} {fd fdS fdA : FuncData} (F : Fun K "checked_automaton" "checked_automaton" s_checked_automaton f fd)
    (D_checked_signs : Wp.Dh K mg "checked_signs" fS fdS ["thing"]) (G_checked_signs : FnOk P w K mg base (L2.CX P w) 3 fS fdS ["thing"] (spSigned K CS))
    (D_automaton_of : Wp.Dh K mg "automaton_of" fA fdA ["signs", "thing"]) (G_automaton_of : FnOk P w K mg base (L2.CX P w) 5 fA fdA ["signs", "thing"] (spAuto K CA)) : FnOk P w K mg base (L2.CX P w) 6 f fd ["signs", "thing"] (spChecked K CS CA) := by
  refine F.okX sc_checked_automaton (fun vs H Q E h => ?_) (fun cdv A outer s H vs Q E hr h => ?_)
  · obtain ⟨sv, sd, v, d, rfl, _⟩ := h
    rfl
  · obtain ⟨sv, sd, v, d, rfl, hsd, hd, hz, hsm, qs, qa⟩ := h
    refine ⟨_, (pss_one (ps_ret (pe_call G_automaton_of (hr.mono (by decide)) (by rfl) D_automaton_of.g D_automaton_of.k D_automaton_of.b .nil (passes_call (takes_of rfl rfl rfl rfl) (fun _ _ _ _ h => h)) (pa_cons (pe_call G_checked_signs (hr.mono (by decide)) (by rfl) D_checked_signs.g D_checked_signs.k D_checked_signs.b .nil (passes_call (takes_of rfl rfl rfl rfl) (fun _ _ _ _ h => h)) (pa_cons (pv 0) pa_nil)) (pa_cons (pv 1) pa_nil))))), ?_⟩
    refine Wp.st (σ' := [some sv, some v]) rfl ?_
    repeat walk_at "W"
    refine ⟨sv, sd, rfl, hsd, hz, fun hg => ?_, fun hb => qs hb⟩
    cases sd with
    | str sg =>
      cases hsd
      repeat walk_at "W"
      exact ⟨sg, v, d, rfl, hd, hsm hg, (qa sg rfl hg).1, (qa sg rfl hg).2⟩
    | _ => cases hg
end
end K01
set_option Elab.async false
set_option linter.all false
set_option maxRecDepth 100000
namespace K01
open PySem PySem.Spec PyProof.Rows L2
open Wp (tri)
def strLt (x y : Str) : Bool := decide (x.cps.toList < y.cps.toList)
theorem int_eqv (a b : Int) : PyData.eqv (.int a) (.int b) = decide (a = b) := by rw [PyData.eqv]; by_cases h : a = b <;> simp [h]
theorem str_eqv (a b : Str) : PyData.eqv (.str a) (.str b) = decide (a = b) := by rw [PyData.eqv]; by_cases h : a = b <;> simp [h]
theorem tri_lt (p q p' q' : Int) (x x' : Str) : PySem.W.dataLt (tri p x q) (tri p' x' q') = if p = p' then (if x = x' then decide (q < q') else strLt x x') else decide (p < p') := by
  rw [PySem.W.dataLt_tuple, PySem.W.dataLt_cons (by simp only [PySem.W.alike]), PySem.W.dataLt_cons (by simp only [PySem.W.alike]), PySem.W.dataLt_cons (by simp only [PySem.W.alike])]
  rw [int_eqv, str_eqv, int_eqv, PySem.W.dataLt_int, PySem.W.dataLt_str, PySem.W.dataLt_int]
  by_cases h1 : p = p'
  · rw [if_pos (decide_eq_true h1), if_pos h1]
    by_cases h2 : x = x'
    · rw [if_pos (decide_eq_true h2), if_pos h2]
      by_cases h3 : q = q'
      · rw [if_pos (decide_eq_true h3)]
        subst h3
        rw [decide_eq_false (by omega)]
        exact PyProof.Rows.lex_irrefl _
      · rw [if_neg (by simp [h3])]
    · rw [if_neg (by simp [h2]), if_neg h2]; rfl
  · rw [if_neg (by simp [h1]), if_neg h1]
theorem strLt_tri {x y : Str} (h : x ≠ y) (h2 : strLt y x = false) : strLt x y = true := by
  unfold strLt at *
  refine decide_eq_true ?_
  have hn : ¬ y.cps.toList < x.cps.toList := of_decide_eq_false h2
  by_cases h3 : x.cps.toList < y.cps.toList
  · exact h3
  · exact absurd (PySem.W.str_of_cps (List.le_antisymm (List.not_lt.mp hn) (List.not_lt.mp h3))) h
theorem tri_total {p q p' q' : Int} {x x' : Str} (h : tri p x q ≠ tri p' x' q') (h2 : PySem.W.dataLt (tri p' x' q') (tri p x q) = false) : PySem.W.dataLt (tri p x q) (tri p' x' q') = true := by
  rw [tri_lt] at h2 ⊢
  by_cases h1 : p = p'
  · rw [if_pos h1.symm] at h2
    rw [if_pos h1]
    by_cases h3 : x = x'
    · rw [if_pos h3.symm] at h2
      rw [if_pos h3]
      have : ¬ q' < q := of_decide_eq_false h2
      refine decide_eq_true ?_
      by_cases h4 : q = q'
      · exact absurd (by rw [h1, h3, h4]) h
      · omega
    · rw [if_neg (fun z => h3 z.symm)] at h2
      rw [if_neg h3]
      exact strLt_tri h3 h2
  · rw [if_neg (fun z => h1 z.symm)] at h2
    rw [if_neg h1]
    have : ¬ p' < p := of_decide_eq_false h2
    exact decide_eq_true (by omega)
/-- a right automaton in least form of data: its edges ascending triples, its ends ascending -/
structure Good (sg : Str) (m : Int) (es : List PyData) (ns : List Int) : Prop where
  m1 : 1 ≤ m
  m2 : m ≤ 40
  el : es.length ≤ 100
  ee : ∀ e ∈ es, isEdge sg m e = true ∧ ∃ p x q, e = tri p x q
  ep : es.Pairwise fun a b => PySem.W.dataLt a b = true
  nl : ns.length ≤ 40
  nn : ∀ n ∈ ns, 0 ≤ n ∧ n ≤ m - 1
  np : ns.Pairwise (· < ·)
def autoD (m : Int) (es : List PyData) (ns : List Int) : PyData := .tuple [.int m, .tuple es, .tuple (ns.map .int)]
theorem noLA_tri : ∀ {es : List PyData}, (∀ e ∈ es, ∃ p x q, e = tri p x q) → Wp.noLA es = true
  | [], _ => rfl
  | e :: es, h => by
    obtain ⟨p, x, q, rfl⟩ := h e List.mem_cons_self
    simp only [Wp.noLA, Wp.noL, Bool.true_and]
    exact noLA_tri fun e he => h e (List.mem_cons_of_mem _ he)
theorem noLA_int : ∀ ns : List Int, Wp.noLA (ns.map .int) = true
  | [] => rfl
  | n :: ns => by
    show (Wp.noL (.int n) && Wp.noLA (ns.map .int)) = true
    rw [noLA_int ns]; rfl
theorem noL_auto {sg : Str} {m : Int} {es : List PyData} {ns : List Int} (g : Good sg m es ns) : Wp.noL (autoD m es ns) = true := by
  show (Wp.noL (.int m) && (Wp.noL (.tuple es) && (Wp.noL (.tuple (ns.map .int)) && true))) = true
  rw [show Wp.noL (.tuple es) = Wp.noLA es from by simp [Wp.noL], show Wp.noL (.tuple (ns.map .int)) = Wp.noLA (ns.map .int) from by simp [Wp.noL], noLA_tri fun e he => (g.ee e he).2, noLA_int]
  rfl
theorem alike_tris {es : List PyData} (h : ∀ e ∈ es, ∃ p x q, e = tri p x q) : PySem.W.AllAlike es := fun d hd d' hd' => by
  obtain ⟨p, x, q, rfl⟩ := h d hd
  obtain ⟨p', x', q', rfl⟩ := h d' hd'
  exact Wp.tri_alike
theorem sortable_tris {es : List PyData} (h : ∀ e ∈ es, ∃ p x q, e = tri p x q) : PySem.W.Sortable es := .inl fun d hd => by
  obtain ⟨p, x, q, rfl⟩ := h d hd
  exact ⟨_, _, rfl⟩
/-- what sorting makes of different triples: they ascend -/
theorem sorted_up {vs : List V} {ds : List PyData} (hl : vs.length = ds.length) (h : ∀ e ∈ ds, ∃ p x q, e = tri p x q) (hn : ds.Nodup) :
    (((vs.zip ds).mergeSort (PySem.W.dataLe false Prod.snd)).map (·.2)).Pairwise fun a b => PySem.W.dataLt a b = true := by
  have hp := List.mergeSort_perm (vs.zip ds) (PySem.W.dataLe false Prod.snd)
  have hs := PySem.W.sort_pairwise (le := PySem.W.dataLe false (Prod.snd : V × PyData → PyData)) (PySem.W.sortLe_total _ _ _) (vs.zip ds)
  have hpm := hp.map Prod.snd
  rw [List.map_snd_zip (by omega)] at hpm
  have hnd : (((vs.zip ds).mergeSort (PySem.W.dataLe false Prod.snd)).map (·.2)).Nodup := hpm.nodup_iff.mpr hn
  have hmem : ∀ e ∈ ((vs.zip ds).mergeSort (PySem.W.dataLe false Prod.snd)).map (·.2), ∃ p x q, e = tri p x q := fun e he => h e (hpm.mem_iff.mp he)
  rw [List.pairwise_map]
  rw [List.Nodup, List.pairwise_map] at hnd
  refine (hs.and hnd).imp_of_mem fun {a b} ha hb hab => ?_
  obtain ⟨p, x, q, e1⟩ := hmem a.2 (List.mem_map_of_mem ha)
  obtain ⟨p', x', q', e2⟩ := hmem b.2 (List.mem_map_of_mem hb)
  have h1 : (!PySem.W.dataLt b.2 a.2) = true := hab.1
  rw [e1, e2] at h1 ⊢
  exact tri_total (by rw [← e1, ← e2]; exact hab.2) (by simpa using h1)
theorem dps_zip {K : PySem.W.Frag} {H : Hp} : ∀ {vs : List V} {ds : List PyData}, DpAll K H vs ds → ∀ p ∈ vs.zip ds, Dp K H p.1 p.2
  | _, _, .nil, p, hp => by cases hp
  | _, _, .cons r t, p, hp => by
    rcases List.mem_cons.mp hp with z | z
    · subst z; exact r
    · exact dps_zip t p z
theorem dps_of {K : PySem.W.Frag} {H : Hp} : ∀ {zs : List (V × PyData)}, (∀ p ∈ zs, Dp K H p.1 p.2) → DpAll K H (zs.map (·.1)) (zs.map (·.2))
  | [], _ => .nil
  | z :: zs, h => .cons (h z List.mem_cons_self) (dps_of fun p hp => h p (List.mem_cons_of_mem _ hp))
theorem dps_ints {K : PySem.W.Frag} {H : Hp} : ∀ ns : List Int, DpAll K H (ns.map V.int) (ns.map PyData.int)
  | [] => .nil
  | n :: ns => .cons (.int n) (dps_ints ns)
end K01
set_option Elab.async false
set_option linter.all false
set_option maxRecDepth 100000
namespace K01
open PySem PySem.Spec PyProof.Rows L2
open Wp (wo_lt wo_gt wo_ge wo_eq wo_ne wo_in wo_nin wo_add wo_mul op_shlB ws_any wc_int wc_isi u65)
abbrev s__law_pick : Stmt := topS 23
abbrev N__law_pick : List Str := ["_law_source_here", "_law_many", "_law_digit", "_law_mixed"]
theorem sc__law_pick : FnScope N__law_pick ["_law_source_here", "_law_many"] (defScope s__law_pick) := ⟨rfl, rfl, rfl, by decide +kernel, rfl, by decide +kernel, by decide +kernel⟩
abbrev s__law_source : Stmt := topS 22
abbrev N__law_source : List Str := ["_law_script", "_law_place_here", "_law_cell", "_law_seed", "_law_one", "_law_number"]
theorem sc__law_source : FnScope N__law_source ["_law_script", "_law_place_here"] (defScope s__law_source) := ⟨rfl, rfl, rfl, by decide +kernel, rfl, by decide +kernel, by decide +kernel⟩
abbrev s__law_signs : Stmt := topS 24
abbrev N__law_signs : List Str := ["_law_source_here", "_law_menu"]
theorem sc__law_signs : FnScope N__law_signs ["_law_source_here"] (defScope s__law_signs) := ⟨rfl, rfl, rfl, by decide +kernel, rfl, by decide +kernel, by decide +kernel⟩
local macro_rules | `(tactic| walk_at "W") => `(tactic| first
  | (with_reducible first
    | refine Wp.seq ?_ | refine Wp.asg ?_ | refine Wp.ret ?_ | refine Wp.retN ?_ | refine Wp.drop ?_ | refine Wp.nxt ?_ | refine Wp.ifs ?_ | refine Wp.gname ?_
    | refine Wp.op ?_ | refine Wp.un ?_ | refine Wp.tst ?_ | refine Wp.tb' ?_ | refine Wp.tnot ?_ | refine Wp.tand ?_ | refine Wp.tor ?_ | refine Wp.tandV ?_ | refine Wp.torV ?_ | refine Wp.tnotV ?_ | refine Wp.tif ?_ | refine Wp.tchain ?_
    | refine Wp.cb ?_ | refine Wp.call ?_ | refine Wp.cons ?_ | refine Wp.nil ?_ | refine Wp.gsub ?_ | refine Wp.cst ?_ | refine Wp.i0 ?_ | refine Wp.int1 ?_ | refine Wp.eb ?_ | refine Wp.ei ?_
    | refine Wp.gnil ?_ | refine Wp.gcons ?_ | refine Wp.mko ?_ | refine Wp.bm ?_ | refine Wp.ienum ?_ | refine Wp.tru ?_ | refine Wp.u1 ?_ | refine Wp.for_ ?_ | refine Wp.lc ?_ | refine Wp.istr ?_ | refine Wp.ilist ?_ | refine Wp.itup ?_ | refine Wp.irng1 ?_ | refine Wp.yes ?_ | refine Wp.es ?_ | refine Wp.er ?_ | refine Wp.sl ?_ | refine Wp.nopart ?_ | refine Wp.part ?_ | refine Wp.lst ?_ | refine Wp.tup ?_
    | refine Wp.ltI ?_ | refine Wp.leI ?_ | refine Wp.leS ?_ | refine Wp.inSg ?_ | refine Wp.gtI ?_ | refine Wp.geI ?_ | refine Wp.eqI ?_ | refine Wp.neI ?_ | refine Wp.addI ?_ | refine Wp.ltS ?_ | refine Wp.eqS ?_ | refine Wp.neS ?_)
  | ((with_reducible refine' Wp.var ?hv ?_); (case hv => exact rfl))
  | ((with_reducible refine' Wp.ixl ?hs ?he ?_); (case hs => first | exact SqL.of upd_same | exact SqL.of (by assumption) | assumption); (case he => exact rfl))
  | ((with_reducible refine' Wp.setl ?hs ?he ?_); (case hs => first | exact upd_same | assumption); (case he => exact rfl))
  | ((with_reducible refine' Wp.modP ?hs ?_); (case hs => first | decide | omega))
  | ((with_reducible refine' Wp.divN ?hs ?ht ?_); (case hs => first | decide | omega); (case ht => first | decide | omega))
  | ((with_reducible refine' Wp.mulM ?hs ?ht ?_); (case hs => decide); (case ht => decide))
  | ((with_reducible refine' Wp.mulL ?hs ?_); (case hs => omega))
  | ((with_reducible refine' Wp.mulR ?hs ?_); (case hs => omega))
  | ((with_reducible refine' Wp.powS ?hs ?_); (case hs => decide))
  | ((with_reducible refine' Wp.shr ?hs ?_); (case hs => decide))
  | ((with_reducible refine' Wp.szl ?hs ?_); (case hs => first | decide | (simp; done)))
  | ((with_reducible refine' Wp.lenL ?hs ?_); (case hs => first | exact SqL.of upd_same | exact SqL.of (by assumption) | assumption))
  | ((with_reducible refine' Wp.lenT ?hs ?_); (case hs => first | exact SqT.of upd_same | exact SqT.of (by assumption) | assumption))
  | ((with_reducible refine' Wp.iteC ?hs ?_); (case hs => exact rfl)) | ((with_reducible refine' Wp.iteD ?hs ?_); (case hs => exact Bool.false_ne_true))
  | ((with_reducible refine' Wp.wp ?hs ?_); (case hs => rfl))
  | (with_reducible first | refine Wp.abs ?_ | refine Wp.max2 ?_ | refine Wp.min2 ?_)
  | ((with_reducible refine' Wp.sll ?hs ?_); (case hs => first | exact SqL.of upd_same | exact SqL.of (by assumption) | assumption)))
local macro_rules | `(tactic| walk_at "KQ") => `(tactic| first
  | exact Wp.kq "int" rfl (by decide +kernel) | exact Wp.kq "bool" rfl (by decide +kernel) | exact Wp.kq "str" rfl (by decide +kernel) | exact Wp.kq "list" rfl (by decide +kernel)
  | exact Wp.kq "tuple" rfl (by decide +kernel) | exact Wp.kq "NoneType" rfl (by decide +kernel) | exact Wp.kq "dict" rfl (by decide +kernel))

/-- a source of draws at a: a list of three ints -/
def Src (H : Hp) (a : Addr) : Prop := ∃ d s c : Int, H a = some (.lst [.int d, .int s, .int c])
def spPick : Sp := fun vs H Q _ => ∃ (a : Addr) (m : Int), vs = [.ref a, .int m] ∧ Src H a ∧ 0 < m ∧ m < 1000000 ∧
  ∀ (r : Int) (H' : Hp), 0 ≤ r → r < m → Wp.Keep a H H' → Src H' a → Q (.int r) H'
section
variable {P : Program} {w : World} {K : PySem.W.Frag} {mg : Str → Option Value} {base : Heap}
theorem ok_pick (B : Wp.Blt mg) {f : Addr} {fd : FuncData} (F : Fun K "_law_pick" "_law_pick" s__law_pick f fd) : FnOk P w K mg base CX0 1 f fd ["_law_source_here", "_law_many"] spPick := by
  refine F.ok sc__law_pick (fun vs H Q E h => ?_) (fun cdv A outer s H vs Q E hr h => ?_)
  · obtain ⟨a, m, rfl, _⟩ := h
    rfl
  · obtain ⟨a, m, rfl, ⟨d, s, c, ha⟩, hm0, hm1, q⟩ := h
    refine ⟨_, (pss_cons (ps_if (pt_cmpR wo_gt (pe_ix (Wp.wx_seq (K := K)) (pv 0) pe_int (fun _ _ => rfl)) pe_int (nomark _)) (pss_cons (ps_set (i := 2) sc__law_pick.nd rfl (by first | exact .inl rfl | exact .inr rfl) (pe_op op_modN (pe_callTy wc_int (by rfl) B.int (by decide +kernel) (pa_cons (pe_ix (Wp.wx_seq (K := K)) (pv 0) pe_int (fun _ _ => rfl)) pa_nil)) (pv 1)))
  (pss_cons (ps_asg (pe_op op_fdivN (pe_ix (Wp.wx_seq (K := K)) (pv 0) pe_int (fun _ _ => rfl)) (pv 1)) (pg_sub (pv 0) pe_int set_list))
  (pss_one (ps_ret (pv 2))))) pss_nil)
  (pss_cons (ps_asg (pe_op (wo_add (K := K)) (pe_ix (Wp.wx_seq (K := K)) (pv 0) pe_int (fun _ _ => rfl)) pe_int) (pg_sub (pv 0) pe_int set_list))
  (pss_cons (ps_set (i := 3) sc__law_pick.nd rfl (by first | exact .inl rfl | exact .inr rfl) (pe_op op_modN (pe_callTy wc_int (by rfl) B.int (by decide +kernel) (pa_cons (pe_op wo_mul (pe_op (wo_add (K := K)) (pe_ix (Wp.wx_seq (K := K)) (pv 0) pe_int (fun _ _ => rfl)) (pe_op wo_mul pe_int (pe_ix (Wp.wx_seq (K := K)) (pv 0) pe_int (fun _ _ => rfl)))) pe_int) pa_nil)) pe_int))
  (pss_cons (ps_set (i := 3) sc__law_pick.nd rfl (by first | exact .inl rfl | exact .inr rfl) (pe_op op_modN (pe_callTy wc_int (by rfl) B.int (by decide +kernel) (pa_cons (pe_op (wo_add (K := K)) (pe_op (wo_add (K := K)) (pe_op wo_mul (pv 3) (pv 3)) (pe_op wo_mul pe_int (pe_ix (Wp.wx_seq (K := K)) (pv 0) pe_int (fun _ _ => rfl)))) (pe_ix (Wp.wx_seq (K := K)) (pv 0) pe_int (fun _ _ => rfl))) pa_nil)) pe_int))
  (pss_cons (ps_set (i := 3) sc__law_pick.nd rfl (by first | exact .inl rfl | exact .inr rfl) (pe_op op_modN (pe_callTy wc_int (by rfl) B.int (by decide +kernel) (pa_cons (pe_op (wo_add (K := K)) (pe_op wo_mul (pv 3) pe_int) pe_int) pa_nil)) pe_int))
  (pss_cons (ps_set (i := 3) sc__law_pick.nd rfl (by first | exact .inl rfl | exact .inr rfl) (pe_op op_modN (pe_callTy wc_int (by rfl) B.int (by decide +kernel) (pa_cons (pe_op (wo_add (K := K)) (pe_op wo_mul (pv 3) (pv 3)) (pv 3)) pa_nil)) pe_int))
  (pss_one (ps_ret (pe_op op_modN (pe_callTy wc_int (by rfl) B.int (by decide +kernel) (pa_cons (pe_op op_fdivN (pv 3) pe_int) pa_nil)) (pv 1)))))))))), ?_⟩
    refine Wp.st (σ' := [some (.ref a), some (.int m), none, none]) rfl ?_
    repeat walk_at "W"
    refine Wp.itd (fun h0 => ?_) (fun h0 => ?_)
    · repeat walk_at "W"
      exact q _ _ (Wp.fm hm0).1 (Wp.fm hm0).2 (Wp.Keep.upd _ _ _) ⟨_, _, _, upd_same⟩
    · repeat walk_at "W"
      exact q _ _ (Wp.fm hm0).1 (Wp.fm hm0).2 (Wp.Keep.upd _ _ _) ⟨_, _, _, upd_same⟩
/-- a new source -/
def spSource (K : PySem.W.Frag) : Sp := fun vs H Q _ => ∃ (a : Addr) (ns : List Int) (k : Int), vs = [.ref a, .int k] ∧ SqL K H a (ns.map V.int) ∧ ns.length ≤ 63 ∧ (∀ z ∈ ns, Builtin.Int.intBits z ≤ 1048576) ∧ 0 ≤ k ∧ k < 1000 ∧
  ∀ H' p, Same H H' → H p = none → Src H' p → Q (.ref p) H'
theorem ok_source (B : Wp.Blt mg) {f : Addr} {fd : FuncData} (F : Fun K "_law_source" "_law_source" s__law_source f fd) : FnOk P w K mg base CX0 1 f fd ["_law_script", "_law_place_here"] (spSource K) := by
  refine F.ok sc__law_source (fun vs H Q E h => ?_) (fun cdv A outer s H vs Q E hr h => ?_)
  · obtain ⟨a, ns, k, rfl, _⟩ := h
    rfl
  · obtain ⟨a, ns, k, rfl, hS, hlen, hbits, hk0, hk1, q⟩ := h
    refine ⟨_, (pss_cons (ps_set (i := 2) sc__law_source.nd rfl (by first | exact .inl rfl | exact .inr rfl) (pe_ifExp (pt_cmpR wo_lt (pv 1) (pe_callB (Wp.wc_len (K := K)) (by rfl) B.len (by decide +kernel) (pa_cons (pv 0) pa_nil)) (nomark _)) (pe_ix (Wp.wx_seq (K := K)) (pv 0) (pv 1) (fun _ _ => rfl)) (pe_op (wo_add (K := K)) (pe_op wo_mul pe_int (pv 1)) pe_int)))
  (pss_cons (ps_set (i := 3) sc__law_source.nd rfl (by first | exact .inl rfl | exact .inr rfl) (pe_op (wo_add (K := K)) (pe_op wo_mul pe_int (pv 1)) pe_int))
  (pss_cons (ps_for PassesOwn.never rfl (Wp.wi_list (K := K) (pe_slice (ws_any (K := K)) (pv 0) po_none (po_some pe_int))) (pg_name (i := 4) sc__law_source.nd rfl (by first | exact .inl rfl | exact .inr rfl)) (pss_one (ps_set (i := 3) sc__law_source.nd rfl (by first | exact .inl rfl | exact .inr rfl) (pe_op op_modN (pe_callTy wc_int (by rfl) B.int (by decide +kernel) (pa_cons (pe_op (wo_add (K := K)) (pe_op wo_mul (pv 3) pe_int) (pe_op op_modN (pe_callTy wc_int (by rfl) B.int (by decide +kernel) (pa_cons (pv 4) pa_nil)) pe_int)) pa_nil)) pe_int))))
  (pss_cons (ps_set (i := 3) sc__law_source.nd rfl (by first | exact .inl rfl | exact .inr rfl) (pe_op op_modN (pe_callTy wc_int (by rfl) B.int (by decide +kernel) (pa_cons (pe_op (wo_add (K := K)) (pe_op wo_mul (pv 3) pe_int) (pe_op op_modN (pe_callTy wc_int (by rfl) B.int (by decide +kernel) (pa_cons (pv 2) pa_nil)) pe_int)) pa_nil)) pe_int))
  (pss_cons (ps_set (i := 5) sc__law_source.nd rfl (by first | exact .inl rfl | exact .inr rfl) (pe_callB Wp.wc_abs (by rfl) B.abs (by decide +kernel) (pa_cons (pv 2) pa_nil)))
  (pss_cons (ps_if (pt_cmpR wo_lt (pv 5) (pe_op op_pow pe_int pe_int) (nomark _)) (pss_one (ps_ret (pe_lst (pa_cons pe_int (pa_cons (pv 3) (pa_cons pe_int pa_nil)))))) pss_nil)
  (pss_cons (ps_if (pt_cmpR wo_gt (pe_op op_shr (pv 5) pe_int) pe_int (nomark _)) (pss_one (ps_set (i := 5) sc__law_source.nd rfl (by first | exact .inl rfl | exact .inr rfl) (pe_op op_sub (pv 5) (pe_op op_shlB (pe_op op_shr (pv 5) pe_int) pe_int)))) pss_nil)
  (pss_one (ps_ret (pe_lst (pa_cons (pv 5) (pa_cons (pv 3) (pa_cons pe_int pa_nil))))))))))))), ?_⟩
    refine Wp.st (σ' := [some (.ref a), some (.int k), none, none, none, none]) rfl ?_
    refine Wp.cutQ (fun σ' H' => ∃ c : Int, Builtin.Int.intBits c ≤ 1048576 ∧ σ' = [some (.ref a), some (.int k), some (.int c), none, none, none] ∧ H' = H) (fun nx hn => ?_) ?_
    · repeat walk_at "W"
      refine Wp.itd (fun h0 => ?_) (fun h0 => ?_)
      · have hk : k.toNat < ns.length := by rw [List.length_map] at h0; omega
        have e : (ns.map V.int)[k.toNat]? = some (.int ns[k.toNat]) := by
          rw [List.getElem?_map, List.getElem?_eq_getElem hk]; rfl
        have e2 : atI (ns.map V.int) k = some (.int ns[k.toNat]) := by
          have q := atI_nat e
          rw [Int.toNat_of_nonneg hk0] at q
          exact q
        repeat walk_at "W"
        refine Wp.ixl hS e2 ?_
        repeat walk_at "W"
        exact hn _ _ ⟨_, hbits _ (List.getElem_mem hk), rfl, rfl⟩
      · repeat walk_at "W"
        refine hn _ _ ⟨_, Nat.le_trans (intBits_le_64 (by omega) (by omega)) (by decide), rfl, rfl⟩
    rintro σ' H' ⟨c, hc, rfl, rfl⟩
    repeat walk_at "W"
    intro p hp
    have hp1 := Wp.same_upd (H := H') (p := p) (o := .lst (cutV (ns.map V.int) none (some 4))) hp
    refine ⟨p, rfl, ⟨_, SqL.of upd_same⟩, Wp.forIt (walk_list (xs := cutV (ns.map V.int) none (some 4))) (fun i σ1 H1 => (∃ (s : Int) (x : Option V), σ1 = [some (.ref a), some (.int k), some (.int c), some (.int s), x, none]) ∧ Same (upd H' p (.lst (cutV (ns.map V.int) none (some 4)))) H1) ⟨⟨_, _, rfl⟩, Same.refl _⟩
      (fun i σ1 H1 _ h => SqL.of (h.2 _ _ upd_same)) ?_ ?_⟩
    · rintro i x σ1 H1 H2 hi ⟨⟨s1, y, rfl⟩, sm⟩ ⟨rfl, hx⟩
      obtain ⟨n, hn, rfl⟩ : ∃ n : Int, n ∈ ns ∧ x = .int n := by
        have hm := List.mem_of_getElem? hx
        unfold cutV at hm
        have hm2 := List.mem_of_mem_drop (List.mem_of_mem_take hm)
        obtain ⟨n, h1, h2⟩ := List.mem_map.mp hm2
        exact ⟨n, h1, h2.symm⟩
      repeat walk_at "W"
      exact ⟨⟨_, _, rfl⟩, sm⟩
    rintro σ1 H1 ⟨⟨s1, x, rfl⟩, sm0⟩
    have sm := hp1.trans sm0
    repeat walk_at "W"
    refine Wp.itd (fun h0 => ?_) (fun h0 => ?_)
    · repeat walk_at "W"
      intro p hp
      exact q _ p (sm.trans (Wp.same_upd hp)) (sm.free hp) ⟨_, _, _, upd_same⟩
    · repeat walk_at "W"
      refine Wp.itd (fun h1 => ?_) (fun h1 => ?_)
      · repeat walk_at "W"
        refine Wp.shl ⟨by decide, ?_⟩ ?_
        · have := Wp.bitsShr 2500 hc
          have e : Int.toNat 2500 = 2500 := rfl
          rw [e]
          omega
        repeat walk_at "W"
        intro p hp
        exact q _ p (sm.trans (Wp.same_upd hp)) (sm.free hp) ⟨_, _, _, upd_same⟩
      · repeat walk_at "W"
        intro p hp
        exact q _ p (sm.trans (Wp.same_upd hp)) (sm.free hp) ⟨_, _, _, upd_same⟩
def menu : List Str := ["ab", "abc", "ab", "ac", "abc", "bz", "a", "bcd", "ab", "kmz", "abc", "xy"]
def spSigns : Sp := fun vs H Q _ => ∃ (a : Addr), vs = [.ref a] ∧ Src H a ∧ ∀ z H', z ∈ menu → Src H' a → Wp.Keep a H H' → Q (.str z) H'
theorem ok_signs (B : Wp.Blt mg) {f fP : Addr} {fd fdP : FuncData} (F : Fun K "_law_signs" "_law_signs" s__law_signs f fd) (D__law_pick : Wp.Dh K mg "_law_pick" fP fdP ["_law_source_here", "_law_many"])
   (G__law_pick : FnOk P w K mg base CX0 1 fP fdP ["_law_source_here", "_law_many"] spPick) : FnOk P w K mg base CX0 2 f fd ["_law_source_here"] spSigns := by
  refine F.ok sc__law_signs (fun vs H Q E h => ?_) (fun cdv A outer s H vs Q E hr h => ?_)
  · obtain ⟨a, rfl, _⟩ := h
    rfl
  · obtain ⟨a, rfl, ⟨d, s, c, ha⟩, q⟩ := h
    refine ⟨_, (pss_cons (ps_set (i := 1) sc__law_signs.nd rfl (by first | exact .inl rfl | exact .inr rfl) (pe_lst (pa_cons pe_str (pa_cons pe_str (pa_cons pe_str (pa_cons pe_str (pa_cons pe_str (pa_cons pe_str (pa_cons pe_str (pa_cons pe_str (pa_cons pe_str (pa_cons pe_str (pa_cons pe_str (pa_cons pe_str pa_nil))))))))))))))
  (pss_one (ps_ret (pe_ix (Wp.wx_seq (K := K)) (pv 1) (pe_call G__law_pick (hr.mono (by decide)) (by rfl) D__law_pick.g D__law_pick.k D__law_pick.b .nil pass0 (pa_cons (pv 0) (pa_cons (pe_callB (Wp.wc_len (K := K)) (by rfl) B.len (by decide +kernel) (pa_cons (pv 1) pa_nil)) pa_nil))) (fun _ _ => rfl))))), ?_⟩
    refine Wp.st (σ' := [some (.ref a), none]) rfl ?_
    repeat walk_at "W"
    intro p hp
    have hap : a ≠ p := ne_of_none ha hp
    repeat walk_at "W"
    refine ⟨a, 12, rfl, ⟨d, s, c, by rw [upd_ne hap]; exact ha⟩, by decide, by decide, fun r H' h0 h1 hk hs => ?_⟩
    have hm : H' p = some (.lst (menu.map V.str)) := hk _ _ (Ne.symm hap) upd_same
    obtain ⟨v, hv, he⟩ := Wp.at_of (xs := menu.map V.str) h0 h1
    obtain ⟨z, hz, rfl⟩ := List.mem_map.mp hv
    refine Wp.ixl (SqL.of hm) he ?_
    exact q z H' hz hs (Wp.Keep.trans (Wp.Keep.of (Wp.same_upd hp)) hk)
end
end K01
set_option Elab.async false
set_option linter.all false
set_option maxRecDepth 100000
set_option maxHeartbeats 8000000
namespace K01
open PySem PySem.Spec PyProof.Rows L2
open Wp (tri Keep wo_lt wo_le wo_gt wo_ge wo_eq wo_ne wo_in wo_nin wo_add wo_mul op_shlB ws_any wc_int wc_isi u65)
abbrev s__law_nfa : Stmt := topS 25
abbrev N__law_nfa : List Str := ["_law_source_here", "_law_signs_here", "_law_most", "_law_many", "_law_edges", "_law_k", "_law_target", "_law_sign", "_law_edge", "_law_state", "_law_ends"]
theorem sc__law_nfa : FnScope N__law_nfa ["_law_source_here", "_law_signs_here", "_law_most"] (defScope s__law_nfa) := ⟨rfl, rfl, rfl, by decide +kernel, rfl, by decide +kernel, by decide +kernel⟩
local macro_rules | `(tactic| walk_at "W") => `(tactic| first
  | (with_reducible first
    | refine Wp.seq ?_ | refine Wp.asg ?_ | refine Wp.ret ?_ | refine Wp.retN ?_ | refine Wp.drop ?_ | refine Wp.nxt ?_ | refine Wp.ifs ?_ | refine Wp.gname ?_
    | refine Wp.op ?_ | refine Wp.un ?_ | refine Wp.tst ?_ | refine Wp.tb' ?_ | refine Wp.tnot ?_ | refine Wp.tand ?_ | refine Wp.tor ?_ | refine Wp.tandV ?_ | refine Wp.torV ?_ | refine Wp.tnotV ?_ | refine Wp.tif ?_ | refine Wp.tchain ?_
    | refine Wp.cb ?_ | refine Wp.call ?_ | refine Wp.cons ?_ | refine Wp.nil ?_ | refine Wp.gsub ?_ | refine Wp.cst ?_ | refine Wp.i0 ?_ | refine Wp.int1 ?_ | refine Wp.eb ?_ | refine Wp.ei ?_
    | refine Wp.gnil ?_ | refine Wp.gcons ?_ | refine Wp.mko ?_ | refine Wp.bm ?_ | refine Wp.ienum ?_ | refine Wp.tru ?_ | refine Wp.u1 ?_ | refine Wp.for_ ?_ | refine Wp.lc ?_ | refine Wp.istr ?_ | refine Wp.ilist ?_ | refine Wp.itup ?_ | refine Wp.irng1 ?_ | refine Wp.yes ?_ | refine Wp.es ?_ | refine Wp.er ?_ | refine Wp.sl ?_ | refine Wp.nopart ?_ | refine Wp.part ?_ | refine Wp.lst ?_ | refine Wp.tup ?_
    | refine Wp.ltI ?_ | refine Wp.leI ?_ | refine Wp.leS ?_ | refine Wp.inSg ?_ | refine Wp.gtI ?_ | refine Wp.geI ?_ | refine Wp.eqI ?_ | refine Wp.neI ?_ | refine Wp.addI ?_ | refine Wp.ltS ?_ | refine Wp.eqS ?_ | refine Wp.neS ?_)
  | ((with_reducible refine' Wp.var ?hv ?_); (case hv => exact rfl))
  | ((with_reducible refine' Wp.ixl ?hs ?he ?_); (case hs => first | exact SqL.of upd_same | exact SqL.of (by assumption) | assumption); (case he => exact rfl))
  | ((with_reducible refine' Wp.setl ?hs ?he ?_); (case hs => first | exact upd_same | assumption); (case he => exact rfl))
  | ((with_reducible refine' Wp.modP ?hs ?_); (case hs => first | decide | omega))
  | ((with_reducible refine' Wp.divN ?hs ?ht ?_); (case hs => first | decide | omega); (case ht => first | decide | omega))
  | ((with_reducible refine' Wp.mulM ?hs ?ht ?_); (case hs => decide); (case ht => decide))
  | ((with_reducible refine' Wp.mulL ?hs ?_); (case hs => omega))
  | ((with_reducible refine' Wp.mulR ?hs ?_); (case hs => omega))
  | ((with_reducible refine' Wp.powS ?hs ?_); (case hs => decide))
  | ((with_reducible refine' Wp.shr ?hs ?_); (case hs => decide))
  | ((with_reducible refine' Wp.szl ?hs ?_); (case hs => first | decide | (simp; done)))
  | ((with_reducible refine' Wp.lenL ?hs ?_); (case hs => first | exact SqL.of upd_same | exact SqL.of (by assumption) | assumption))
  | ((with_reducible refine' Wp.lenT ?hs ?_); (case hs => first | exact SqT.of upd_same | exact SqT.of (by assumption) | assumption))
  | ((with_reducible refine' Wp.iteC ?hs ?_); (case hs => exact rfl)) | ((with_reducible refine' Wp.iteD ?hs ?_); (case hs => exact Bool.false_ne_true))
  | ((with_reducible refine' Wp.wp ?hs ?_); (case hs => rfl))
  | (with_reducible first | refine Wp.abs ?_ | refine Wp.max2 ?_ | refine Wp.min2 ?_)
  | ((with_reducible refine' Wp.sll ?hs ?_); (case hs => first | exact SqL.of upd_same | exact SqL.of (by assumption) | assumption)))
local macro_rules | `(tactic| walk_at "KQ") => `(tactic| first
  | exact Wp.kq "int" rfl (by decide +kernel) | exact Wp.kq "bool" rfl (by decide +kernel) | exact Wp.kq "str" rfl (by decide +kernel) | exact Wp.kq "list" rfl (by decide +kernel)
  | exact Wp.kq "tuple" rfl (by decide +kernel) | exact Wp.kq "NoneType" rfl (by decide +kernel) | exact Wp.kq "dict" rfl (by decide +kernel))

section
variable {P : Program} {w : World} {K : PySem.W.Frag} {mg : Str → Option Value} {base : Heap}
/-- behind the draws: the source at a, the edges so far at fa; all that stood is as it was -/
structure Sn (K : PySem.W.Frag) (a fa : Addr) (us : List V) (ds : List PyData) (H0 H : Hp) : Prop where
  k : Keep a H0 H
  s : Src H a
  f : H fa = some (.lst us)
  d : DpAll K H us ds
theorem Sn.go {a fa : Addr} {us : List V} {ds : List PyData} {H0 H H' : Hp} (x : Sn K a fa us ds H0 H) (hn : Wp.noLA ds = true) (hne : fa ≠ a) (k : Keep a H H') (s : Src H' a) : Sn K a fa us ds H0 H' := by
  obtain ⟨d, z, c, ha⟩ := x.s
  exact ⟨x.k.trans k, s, k _ _ hne x.f, Wp.dps_keep ha k _ _ hn x.d⟩
theorem Sn.new {a fa T : Addr} {us : List V} {ds : List PyData} {H0 H : Hp} {o : HO} (x : Sn K a fa us ds H0 H) (hT : H T = none) : Sn K a fa us ds H0 (upd H T o) := by
  have sm := Wp.same_upd (o := o) hT
  obtain ⟨d, z, c, ha⟩ := x.s
  exact ⟨x.k.trans (Wp.Keep.of sm), ⟨d, z, c, sm _ _ ha⟩, sm _ _ x.f, Wp.dps_same sm _ _ x.d⟩
theorem Sn.push {a fa : Addr} {us : List V} {ds : List PyData} {H0 H : Hp} {v : V} {d : PyData} (x : Sn K a fa us ds H0 H) (h0 : H0 fa = none) (hne : fa ≠ a) (hn : Wp.noLA ds = true) (hd : Wp.noL d = true) (hv : Dp K H v d) : Sn K a fa (us ++ [v]) (ds ++ [d]) H0 (upd H fa (.lst (us ++ [v]))) := by
  obtain ⟨z1, z2, z3, ha⟩ := x.s
  refine ⟨fun b o hb e => ?_, ⟨z1, z2, z3, ?_⟩, upd_same, ?_⟩
  · rw [upd_ne (ne_of_none e h0)]; exact x.k b o hb e
  · rw [upd_ne hne.symm]; exact ha
  · exact Wp.dps_append (Wp.dps_upd x.f _ _ hn x.d) (.cons (Wp.dp_upd x.f _ _ hd hv) .nil)
theorem menu_len : ∀ z ∈ menu, z.length ≤ 3 ∧ 1 ≤ z.length ∧ (z.cps.toList.all fun c => decide (97 ≤ c) && decide (c ≤ 122)) = true := by decide
def sgOf (sg x : Str) : Prop := x = "" ∨ ∃ c ∈ sg.cps.toList, x = ⟨#[c]⟩
theorem sg_text {sg x : Str} (h : sgOf sg x) : Wp.isText sg 1 (.str x) = true := by
  rcases h with rfl | ⟨c, hc, rfl⟩
  · rfl
  · show (decide (((1 : Nat) : Int) ≤ 1) && ([c].all fun c => decide (c ∈ sg.cps.toList))) = true
    simp [Array.mem_toList_iff.mp hc]
def spNfa (K : PySem.W.Frag) : Sp := fun vs H Q _ => ∃ a sg, vs = [.ref a, .str sg, .int 5] ∧ Src H a ∧ sg ∈ menu ∧
  ∀ H' r m es ns, Good sg m es ns → m ≤ 5 → es.length ≤ 11 → Keep a H H' → Src H' a → Dp K H' (.ref r) (autoD m es ns) → Q (.ref r) H'
theorem shaped_tri {sg x : Str} {p q : Int} (hm : sg ∈ menu) (h : sgOf sg x) : SeqAt.shaped (tri p x q) = true := by
  have hx : PyData.strOk x = true := by
    rcases h with rfl | ⟨c, hc, rfl⟩
    · decide +kernel
    · have := (menu_len sg hm).2.2
      have h2 := List.all_eq_true.mp this c hc
      simp at h2
      show (#[c].all (· < 0x110000)) = true
      simp; omega
  unfold SeqAt.shaped
  simp [PyData.canLay0, PyData.canLayAll0, PyData.depth, PyData.depthAll, hx]
theorem shaped_list {ds : List PyData} (h : ∀ d ∈ ds, SeqAt.shaped d = true ∧ d.depth ≤ 60) : SeqAt.shaped (.list ds) = true := by
  have h1 : ∀ {ds : List PyData}, (∀ d ∈ ds, SeqAt.shaped d = true ∧ d.depth ≤ 60) → PyData.canLayAll0 ds = true ∧ PyData.depthAll ds ≤ 60 := by
    intro ds
    induction ds with
    | nil => intro _; exact ⟨rfl, by simp [PyData.depthAll]⟩
    | cons d ds ih =>
      intro h
      obtain ⟨a, b⟩ := ih fun e he => h e (List.mem_cons_of_mem _ he)
      obtain ⟨c, e⟩ := h d List.mem_cons_self
      refine ⟨?_, ?_⟩
      · rw [PyData.canLayAll0, SeqAt.canLay_of_shaped c, a]; rfl
      · rw [PyData.depthAll]
        exact Nat.max_le.mpr ⟨e, b⟩
  obtain ⟨a, b⟩ := h1 h
  unfold SeqAt.shaped
  have e1 : (PyData.list ds).canLay0 = true := by rw [PyData.canLay0]; exact a
  have e2 : (PyData.list ds).depth ≤ 64 := by rw [PyData.depth]; omega
  rw [e1, decide_eq_true e2]; rfl
theorem tri_ne_eqv {p q p' q' : Int} {x x' : Str} (h : PyData.eqv (tri p' x' q') (tri p x q) = false) : tri p x q ≠ tri p' x' q' := fun z => by
  rw [z] at h
  rw [PyData.eqv, PyData.eqvAll, PyData.eqvAll, PyData.eqvAll, PyData.eqvAll, int_eqv, str_eqv, int_eqv] at h
  simp at h
theorem sg_ix {sg : Str} {r : Int} (h0 : 0 ≤ r) (h1 : r < (sg.length : Int)) : ∃ c, c ∈ sg.cps.toList ∧ atI sg.cps.toList r = some c := by
  have hl : sg.length = sg.cps.toList.length := by rw [Array.length_toList]; rfl
  have hk : r.toNat < sg.cps.toList.length := by omega
  refine ⟨_, List.getElem_mem hk, ?_⟩
  have q := atI_nat (List.getElem?_eq_getElem hk)
  rw [Int.toNat_of_nonneg h0] at q
  exact q
theorem edge_of {sg x : Str} {m p q : Int} (h : sgOf sg x) (h1 : 0 ≤ p) (h2 : p ≤ m - 1) (h3 : 0 ≤ q) (h4 : q ≤ m - 1) : isEdge sg m (tri p x q) = true := by
  show (Wp.between 0 (m - 1) (.int p) && Wp.between 0 (m - 1) (.int q) && Wp.isText sg 1 (.str x)) = true
  rw [sg_text h]
  simp [Wp.between, h1, h2, h3, h4]
theorem ok_nfa (B : Wp.Blt mg) {f fP : Addr} {fd fdP : FuncData} (F : Fun K "_law_nfa" "_law_nfa" s__law_nfa f fd) (D__law_pick : Wp.Dh K mg "_law_pick" fP fdP ["_law_source_here", "_law_many"])
    (G__law_pick : FnOk P w K mg base CX0 1 fP fdP ["_law_source_here", "_law_many"] spPick) : FnOk P w K mg base CX0 2 f fd ["_law_source_here", "_law_signs_here", "_law_most"] (spNfa K) := by
  refine F.ok sc__law_nfa (fun vs H Q E h => ?_) (fun cdv A outer s H vs Q E hr h => ?_)
  · obtain ⟨a, sg, rfl, _⟩ := h
    rfl
  · obtain ⟨a, sg, rfl, hs, hmn, q⟩ := h
    have hsl := menu_len sg hmn
    refine ⟨_, (pss_cons (ps_set (i := 3) sc__law_nfa.nd rfl (by first | exact .inl rfl | exact .inr rfl) (pe_op (wo_add (K := K)) pe_int (pe_callB (Wp.wc_max rfl) (by rfl) B.max (by decide +kernel) (pa_cons (pe_call G__law_pick (hr.mono (by decide)) (by rfl) D__law_pick.g D__law_pick.k D__law_pick.b .nil pass0 (pa_cons (pv 0) (pa_cons (pv 2) pa_nil))) (pa_cons (pe_call G__law_pick (hr.mono (by decide)) (by rfl) D__law_pick.g D__law_pick.k D__law_pick.b .nil pass0 (pa_cons (pv 0) (pa_cons (pv 2) pa_nil))) pa_nil)))))
  (pss_cons (ps_set (i := 4) sc__law_nfa.nd rfl (by first | exact .inl rfl | exact .inr rfl) (pe_lst pa_nil))
  (pss_cons (ps_for PassesOwn.never rfl (pi_range1 (by rfl) B.range (pa_cons (pe_op (wo_add (K := K)) (pe_op wo_mul pe_int (pv 3)) pe_int) pa_nil)) (pg_name (i := 5) sc__law_nfa.nd rfl (by first | exact .inl rfl | exact .inr rfl)) (pss_cons (ps_set (i := 6) sc__law_nfa.nd rfl (by first | exact .inl rfl | exact .inr rfl) (pe_ifExp (pt_chain wo_lt wo_lt pe_int (pv 5) (pv 3)) (pv 5) (pe_call G__law_pick (hr.mono (by decide)) (by rfl) D__law_pick.g D__law_pick.k D__law_pick.b .nil pass0 (pa_cons (pv 0) (pa_cons (pv 3) pa_nil)))))
  (pss_cons (ps_set (i := 7) sc__law_nfa.nd rfl (by first | exact .inl rfl | exact .inr rfl) (pe_ifExp (pt_cmpR wo_gt (pe_call G__law_pick (hr.mono (by decide)) (by rfl) D__law_pick.g D__law_pick.k D__law_pick.b .nil pass0 (pa_cons (pv 0) (pa_cons pe_int pa_nil))) pe_int (nomark _)) (pe_ix (Wp.wx_seq (K := K)) (pv 1) (pe_call G__law_pick (hr.mono (by decide)) (by rfl) D__law_pick.g D__law_pick.k D__law_pick.b .nil pass0 (pa_cons (pv 0) (pa_cons (pe_callB (Wp.wc_len (K := K)) (by rfl) B.len (by decide +kernel) (pa_cons (pv 1) pa_nil)) pa_nil))) (fun _ _ => rfl)) pe_str))
  (pss_cons (ps_set (i := 8) sc__law_nfa.nd rfl (by first | exact .inl rfl | exact .inr rfl) (pe_tup (pa_cons (pe_call G__law_pick (hr.mono (by decide)) (by rfl) D__law_pick.g D__law_pick.k D__law_pick.b .nil pass0 (pa_cons (pv 0) (pa_cons (pe_ifExp (pt_chain wo_lt wo_lt pe_int (pv 5) (pv 3)) (pe_callB (Wp.wc_min rfl) (by rfl) B.min (by decide +kernel) (pa_cons (pv 5) (pa_cons (pv 3) pa_nil))) (pv 3)) pa_nil))) (pa_cons (pv 7) (pa_cons (pv 6) pa_nil)))))
  (pss_one (ps_if (PW.pt (pw_and (pt_cmpR (wo_nin (K := K) (u65 hr)) (pv 8) (pv 4) (by rfl)) (pw_and1 (pt_cmpR wo_gt (pe_call G__law_pick (hr.mono (by decide)) (by rfl) D__law_pick.g D__law_pick.k D__law_pick.b .nil pass0 (pa_cons (pv 0) (pa_cons pe_int pa_nil))) pe_int (nomark _))))) (pss_one (ps_expr (Wp.wbm (K := K) (pe_bm PySem.F.plainAttrs_list PySem.F.slot_list_append PySem.F.type_list_append mt_append (pv 4) (pa_cons (pv 8) pa_nil))))) pss_nil))))))
  (pss_cons (ps_setLc (i := 10) (own := [("_law_state", 9)]) (g := gName 9) (by rfl) sc__law_nfa.nd rfl rfl (sw_true rfl rfl rfl (by decide +kernel)) (pi_range1 (by rfl) B.range (pa_cons (pv 3) pa_nil)) (blkOk_by (own := [("_law_state", 9)]) (N := N__law_nfa) (sc := defScope s__law_nfa) (by decide +kernel)) (fun _ _ _ _ _ => pg_name (i := 9) sc__law_nfa.nd rfl (Or.inl rfl)) (fun _ _ _ _ _ => pts_one (PW.pt (pw_or (pt_cmpR (wo_eq (K := K) hr.units) (pe_call G__law_pick (hr.mono (by decide)) (by rfl) D__law_pick.g D__law_pick.k D__law_pick.b .nil pass0 (pa_cons (pv 0) (pa_cons pe_int pa_nil))) pe_int (nomark _)) (pw_or1 (PW.pt (pw_and (pt_cmpR (wo_eq (K := K) hr.units) (pv 9) (pe_op op_sub (pv 3) pe_int) (nomark _)) (pw_and1 (pt_cmpR wo_gt (pe_call G__law_pick (hr.mono (by decide)) (by rfl) D__law_pick.g D__law_pick.k D__law_pick.b .nil pass0 (pa_cons (pv 0) (pa_cons pe_int pa_nil))) pe_int (nomark _))))))))) (fun _ _ _ _ _ => (pv 9)))
  (pss_one (ps_ret (pe_tup (pa_cons (pv 3) (pa_cons (pe_callTy (Wp.wc_tuple (K := K)) (by rfl) B.tuple (by decide +kernel) (pa_cons (pe_callB (Wp.wc_sorted (K := K) (u65 hr)) (by rfl) B.sorted (by decide +kernel) (pa_cons (pv 4) pa_nil)) pa_nil)) (pa_cons (pe_callTy (Wp.wc_tuple (K := K)) (by rfl) B.tuple (by decide +kernel) (pa_cons (pv 10) pa_nil)) pa_nil)))))))))), ?_⟩
    refine Wp.st (σ' := [some (.ref a), some (.str sg), some (.int 5), none, none, none, none, none, none, none, none]) rfl ?_
    repeat walk_at "W"
    refine ⟨a, 5, rfl, hs, by decide, by decide, fun r1 H1 h10 h11 k1 s1 => ?_⟩
    repeat walk_at "W"
    refine ⟨a, 5, rfl, s1, by decide, by decide, fun r2 H2 h20 h21 k2 s2 => ?_⟩
    repeat walk_at "W"
    generalize hm : 1 + (if r2 > r1 then r2 else r1) = m
    have hm1 : 1 ≤ m := by rw [← hm]; split <;> omega
    have hm5 : m ≤ 5 := by rw [← hm]; split <;> omega
    have k02 := k1.trans k2
    intro fa hfa
    have hfaa : fa ≠ a := fun z => by obtain ⟨d, z2, c, e⟩ := s2; rw [z, e] at hfa; cases hfa
    have hfa0 : H fa = none := by
      cases e : H fa with
      | none => rfl
      | some o => rw [k02 _ _ hfaa e] at hfa; cases hfa
    repeat walk_at "W"
    refine ⟨2 * m + 1, rfl, by omega, by omega, ?_⟩
    have hnlof : ∀ {ds : List PyData}, (∀ e ∈ ds, isEdge sg m e = true ∧ ∃ p x q, e = tri p x q ∧ sgOf sg x) → Wp.noLA ds = true := fun h => noLA_tri fun e he => by
      obtain ⟨_, p, x, q, z, _⟩ := h e he
      exact ⟨p, x, q, z⟩
    refine Wp.forIt walk_range (fun i σ1 H1 => ∃ x5 x6 x7 x8 us ds, σ1 = [some (.ref a), some (.str sg), some (.int 5), some (.int m), some (.ref fa), x5, x6, x7, x8, none, none] ∧ Sn K a fa us ds H H1 ∧ ds.length ≤ i ∧
      (∀ e ∈ ds, isEdge sg m e = true ∧ ∃ p x q, e = tri p x q ∧ sgOf sg x) ∧ ds.Nodup) ⟨_, _, _, _, [], [], rfl, ?_, Nat.le_refl _, (fun _ z => nomatch z), List.nodup_nil⟩ (fun _ _ _ _ _ => trivial) ?_ ?_
    · have sm := Wp.same_upd (p := fa) (o := .lst []) hfa
      obtain ⟨d, z, c, ha⟩ := s2
      exact ⟨k02.trans (Wp.Keep.of sm), ⟨d, z, c, sm _ _ ha⟩, upd_same, .nil⟩
    · rintro i v σ1 H3 H3' hi ⟨x5, x6, x7, x8, us, ds, rfl, sn, hlen, hes, hnd⟩ ⟨rfl, rfl⟩
      have hnl := hnlof hes
      have hk0 : 0 ≤ 0 + (i : Int) := by omega
      refine Wp.gname ?_
      refine Wp.cutQ (fun σ' H' => ∃ t, 0 ≤ t ∧ t ≤ m - 1 ∧ σ' = [some (.ref a), some (.str sg), some (.int 5), some (.int m), some (.ref fa), some (.int (0 + (i : Int))), some (.int t), x7, x8, none, none] ∧ Sn K a fa us ds H H') (fun nx hn => ?_) ?_
      · repeat walk_at "W"
        refine Wp.itd (fun e1 => ?_) (fun e1 => ?_)
        · repeat walk_at "W"
          refine Wp.itd (fun e2 => ?_) (fun e2 => ?_)
          · repeat walk_at "W"
            exact hn _ _ ⟨0 + (i : Int), hk0, by omega, rfl, sn⟩
          · repeat walk_at "W"
            refine ⟨a, m, rfl, sn.s, by omega, by omega, fun r H4 h0 h1 hk hs => ?_⟩
            repeat walk_at "W"
            exact hn _ _ ⟨r, h0, by omega, rfl, sn.go hnl hfaa hk hs⟩
        · repeat walk_at "W"
          refine ⟨a, m, rfl, sn.s, by omega, by omega, fun r H4 h0 h1 hk hs => ?_⟩
          repeat walk_at "W"
          exact hn _ _ ⟨r, h0, by omega, rfl, sn.go hnl hfaa hk hs⟩
      rintro σ' H4 ⟨t, ht0, ht1, rfl, sn⟩
      refine Wp.cutQ (fun σ' H' => ∃ x, sgOf sg x ∧ σ' = [some (.ref a), some (.str sg), some (.int 5), some (.int m), some (.ref fa), some (.int (0 + (i : Int))), some (.int t), some (.str x), x8, none, none] ∧ Sn K a fa us ds H H') (fun nx hn => ?_) ?_
      · repeat walk_at "W"
        refine ⟨a, 9, rfl, sn.s, by omega, by omega, fun r H5 h0 h1 hk hs => ?_⟩
        have sn := sn.go hnl hfaa hk hs
        repeat walk_at "W"
        refine Wp.itd (fun e1 => ?_) (fun e1 => ?_)
        · repeat walk_at "W"
          refine Wp.lenS (by have := hsl.1; exact Nat.le_of_lt (small1000 (by omega))) ?_
          repeat walk_at "W"
          refine ⟨a, sg.length, rfl, sn.s, by have := hsl.2.1; omega, by have := hsl.1; omega, fun r2 H6 h20 h21 hk2 hs2 => ?_⟩
          obtain ⟨c, hc, hat⟩ := sg_ix h20 h21
          refine Wp.ixs (by have := hsl.1; exact Nat.le_of_lt (small1000 (by omega))) hat ?_
          repeat walk_at "W"
          exact hn _ _ ⟨_, .inr ⟨c, hc, rfl⟩, rfl, sn.go hnl hfaa hk2 hs2⟩
        · repeat walk_at "W"
          exact hn _ _ ⟨_, .inl rfl, rfl, sn⟩
      rintro σ' H5 ⟨x, hx, rfl, sn⟩
      refine Wp.cutQ (fun σ' H' => ∃ T p, 0 ≤ p ∧ p ≤ m - 1 ∧ σ' = [some (.ref a), some (.str sg), some (.int 5), some (.int m), some (.ref fa), some (.int (0 + (i : Int))), some (.int t), some (.str x), some (.ref T), none, none] ∧ Sn K a fa us ds H H' ∧ Dp K H' (.ref T) (tri p x t)) (fun nx hn => ?_) ?_
      · have fin : ∀ (b : Int), 0 < b → b ≤ m → spPick [.ref a, .int b] H5 (fun v H1 => tCons (tVar 7) (tCons (tVar 6) tNil) [some (.ref a), some (.str sg), some (.int 5), some (.int m), some (.ref fa), some (.int (0 + (i : Int))), some (.int t), some (.str x), x8, none, none] H1 fun xs H2 => (v :: xs).length ≤ sizeLine ∧ ∀ p, H2 p = none →
            gName 8 (.ref p) [some (.ref a), some (.str sg), some (.int 5), some (.int m), some (.ref fa), some (.int (0 + (i : Int))), some (.int t), some (.str x), x8, none, none] (upd H2 p (.tup (v :: xs))) nx) E0 := fun b hb0 hb1 => by
          refine ⟨a, b, rfl, sn.s, hb0, by omega, fun r H6 h0 h1 hk hs => ?_⟩
          have sn := sn.go hnl hfaa hk hs
          repeat walk_at "W"
          intro T hT
          repeat walk_at "W"
          exact hn _ _ ⟨T, r, h0, by omega, rfl, sn.new hT, .tup (SqT.of upd_same) (.cons (.int _) (.cons (.str _) (.cons (.int _) .nil)))⟩
        repeat walk_at "W"
        refine Wp.itd (fun e1 => ?_) (fun e1 => ?_)
        · repeat walk_at "W"
          refine Wp.itd (fun e2 => ?_) (fun e2 => ?_)
          · repeat walk_at "W"
            refine fin _ ?_ ?_ <;> split <;> omega
          · repeat walk_at "W"
            exact fin _ (by omega) (by omega)
        · repeat walk_at "W"
          exact fin _ (by omega) (by omega)
      rintro σ' H6 ⟨T, p, hp0, hp1, rfl, sn, hT⟩
      have hedge := edge_of hx hp0 hp1 ht0 ht1
      have hshT : SeqAt.shaped (tri p x t) = true := shaped_tri hmn hx
      have hshL : SeqAt.shaped (.list ds) = true := shaped_list fun d hd => by
        obtain ⟨_, p, x, q, rfl, hx⟩ := hes d hd
        exact ⟨shaped_tri hmn hx, Wp.tri_depth⟩
      repeat walk_at "W"
      refine .inr ⟨tri p x t, ds, hT, .lst (SqL.of sn.f) sn.d, hshT, hshL, ?_⟩
      repeat walk_at "W"
      refine Wp.itnb (fun e1 => ?_) (fun e1 => ?_)
      · repeat walk_at "W"
        refine ⟨a, 4, rfl, sn.s, by omega, by omega, fun r H7 h0 h1 hk hs => ?_⟩
        obtain ⟨z1, z2, z3, hsa⟩ := sn.s
        have hT := Wp.dp_keep hsa hk _ _ rfl hT
        have sn := sn.go hnl hfaa hk hs
        repeat walk_at "W"
        refine Wp.itd (fun e2 => ?_) (fun e2 => ?_)
        · repeat walk_at "W"
          refine Wp.tyl sn.f ?_
          repeat walk_at "W"
          have hul : us.length ≤ 1000 := by
            have h1 := Wp.dps_len sn.d
            have h2 : i < 1000 := by omega
            omega
          refine Wp.app sn.f (small1000 hul) ?_
          repeat walk_at "W"
          refine ⟨_, _, _, _, _, ds ++ [tri p x t], rfl, sn.push hfa0 hfaa hnl rfl hT, by rw [List.length_append]; simp; omega, ?_, ?_⟩
          · intro e he
            rcases List.mem_append.mp he with h | h
            · exact hes e h
            · rw [List.mem_singleton.mp h]
              exact ⟨hedge, p, x, t, rfl, hx⟩
          · refine List.nodup_append.mpr ⟨hnd, by simp, fun e he e' he' => ?_⟩
            rw [List.mem_singleton.mp he']
            obtain ⟨_, p', x', q', rfl, _⟩ := hes e he
            have := List.any_eq_false.mp e1 _ he
            exact (tri_ne_eqv (by simpa using this)).symm
        · repeat walk_at "W"
          exact ⟨_, _, _, _, _, ds, rfl, sn, by omega, hes, hnd⟩
      · repeat walk_at "W"
        exact ⟨_, _, _, _, _, ds, rfl, sn, by omega, hes, hnd⟩
    · rintro σ1 H3 ⟨x5, x6, x7, x8, us, ds, rfl, sn, hlen, hes, hnd⟩
      repeat walk_at "W"
      have hnl := hnlof hes
      refine ⟨m, rfl, by omega, by omega, fun A hA => ?_⟩
      have hAa : A ≠ a := fun z => by obtain ⟨d, z2, c, e⟩ := sn.s; rw [z, e] at hA; cases hA
      have hAf : A ≠ fa := fun z => by rw [z, sn.f] at hA; cases hA
      have hA0 : H A = none := by
        cases e : H A with
        | none => rfl
        | some o => rw [sn.k _ _ hAa e] at hA; cases hA
      refine Wp.lcIt walk_range (fun i H1 => ∃ ns : List Int, Sn K a fa us ds H H1 ∧ H1 A = some (.lst (ns.map V.int)) ∧ ns.length ≤ i ∧ (∀ n ∈ ns, 0 ≤ n ∧ n < i) ∧ ns.Pairwise (· < ·)) ⟨[], sn.new hA, upd_same, Nat.le_refl _, (fun _ z => nomatch z), .nil⟩ (fun _ _ _ _ => trivial) ?_ ?_
      · rintro i v H4 H4' hi ⟨ns, sn, hl, hnl2, hns, hnp⟩ ⟨rfl, rfl⟩
        have keepA : ∀ {H5}, Keep a H4' H5 → H5 A = some (.lst (ns.map V.int)) := fun k => k _ _ hAa hl
        have fin : ∀ H5, Sn K a fa us ds H H5 → H5 A = some (.lst (ns.map V.int)) → ∃ acc, H5 A = some (.lst acc) ∧ acc.length < sizeLine ∧ ∃ ns' : List Int, Sn K a fa us ds H (upd H5 A (.lst (acc ++ [.int (0 + (i : Int))]))) ∧ (upd H5 A (.lst (acc ++ [.int (0 + (i : Int))]))) A = some (.lst (ns'.map V.int)) ∧ ns'.length ≤ i + 1 ∧ (∀ n ∈ ns', 0 ≤ n ∧ n < ((i + 1 : Nat) : Int)) ∧ ns'.Pairwise (· < ·) := fun H5 sn5 hl5 => by
          refine ⟨_, hl5, by rw [List.length_map]; exact small1000 (by omega), ns ++ [0 + (i : Int)], ?_, ?_, ?_, ?_, ?_⟩
          · obtain ⟨z1, z2, z3, ha⟩ := sn5.s
            refine ⟨fun b o hb e => ?_, ⟨z1, z2, z3, by rw [upd_ne hAa.symm]; exact ha⟩, by rw [upd_ne hAf.symm]; exact sn5.f, Wp.dps_upd hl5 _ _ hnl sn5.d⟩
            rw [upd_ne (ne_of_none e hA0)]; exact sn5.k b o hb e
          · rw [upd_same, List.map_append]; rfl
          · rw [List.length_append]; simp; omega
          · intro n hn
            rcases List.mem_append.mp hn with h | h
            · have := hns n h; omega
            · rw [List.mem_singleton.mp h]; omega
          · refine List.pairwise_append.mpr ⟨hnp, List.pairwise_singleton _ _, fun x hx y hy => ?_⟩
            have := (hns x hx).2
            rw [List.mem_singleton.mp hy]; omega
        have skip : ∀ H5, Sn K a fa us ds H H5 → H5 A = some (.lst (ns.map V.int)) → ∃ ns' : List Int, Sn K a fa us ds H H5 ∧ H5 A = some (.lst (ns'.map V.int)) ∧ ns'.length ≤ i + 1 ∧ (∀ n ∈ ns', 0 ≤ n ∧ n < ((i + 1 : Nat) : Int)) ∧ ns'.Pairwise (· < ·) := fun H5 sn5 hl5 => ⟨ns, sn5, hl5, by omega, fun n hn => by have := hns n hn; omega, hnp⟩
        repeat walk_at "W"
        refine ⟨a, 3, rfl, sn.s, by omega, by omega, fun r H5 h0 h1 hk hs => ?_⟩
        have hl5 := keepA hk
        have sn5 := sn.go hnl hfaa hk hs
        repeat walk_at "W"
        refine Wp.itd (fun e1 => ?_) (fun e1 => ?_)
        · repeat walk_at "W"
          exact fin _ sn5 hl5
        · repeat walk_at "W"
          refine Wp.itd (fun e2 => ?_) (fun e2 => ?_)
          · repeat walk_at "W"
            refine ⟨a, 4, rfl, sn5.s, by omega, by omega, fun r2 H6 h20 h21 hk2 hs2 => ?_⟩
            have hl6 := hk2 _ _ hAa hl5
            have sn6 := sn5.go hnl hfaa hk2 hs2
            repeat walk_at "W"
            refine Wp.itd (fun e3 => ?_) (fun e3 => ?_)
            · repeat walk_at "W"
              exact fin _ sn6 hl6
            · exact skip _ sn6 hl6
          · repeat walk_at "W"
            exact skip _ sn5 hl5
      · rintro H4 ⟨ns, sn, hl, hnl2, hns, hnp⟩
        repeat walk_at "W"
        have htr : ∀ e ∈ ds, ∃ p x q, e = tri p x q := fun e he => by
          obtain ⟨_, p, x, q, z, _⟩ := hes e he
          exact ⟨p, x, q, z⟩
        refine ⟨fa, us, ds, rfl, SqL.of sn.f, sn.d, alike_tris htr, sortable_tris htr, fun d hd => by obtain ⟨p, x, q, rfl⟩ := htr d hd; exact Wp.tri_depth, fun zs p hperm hzs hp => ?_⟩
        have sn5 := sn.new (o := .lst (zs.map (·.1))) hp
        have hul := Wp.dps_len sn.d
        have hpm := hperm.map Prod.snd
        rw [List.map_snd_zip (by omega)] at hpm
        have sm5 := Wp.same_upd (o := .lst (zs.map (·.1))) hp
        have hdz : DpAll K (upd H4 p (.lst (zs.map (·.1)))) (zs.map (·.1)) (zs.map (·.2)) := Wp.dps_same sm5 _ _ (dps_of fun x hx => dps_zip sn.d x (hperm.mem_iff.mp hx))
        have hup : (zs.map (·.2)).Pairwise fun a b => PySem.W.dataLt a b = true := by rw [hzs]; exact sorted_up hul htr hnd
        repeat walk_at "W"
        refine Wp.tupL (SqL.of upd_same) fun t1 ht1 => ?_
        have sm6 := Wp.same_upd (o := .tup (zs.map (·.1))) ht1
        have sn6 := sn5.new (o := .tup (zs.map (·.1))) ht1
        repeat walk_at "W"
        have hl6 := sm6 _ _ (sm5 _ _ hl)
        refine Wp.tupL (SqL.of hl6) fun t2 ht2 => ?_
        have sm7 := Wp.same_upd (o := .tup (ns.map V.int)) ht2
        have sn7 := sn6.new (o := .tup (ns.map V.int)) ht2
        repeat walk_at "W"
        intro t3 ht3
        have sm8 := Wp.same_upd (o := .tup [.int m, .ref t1, .ref t2]) ht3
        have sn8 := sn7.new (o := .tup [.int m, .ref t1, .ref t2]) ht3
        refine q _ _ m (zs.map (·.2)) ns ⟨hm1, by omega, ?_, ?_, hup, ?_, ?_, hnp⟩ hm5 ?_ sn8.k sn8.s ?_
        · rw [hpm.length_eq]; omega
        · intro e he
          obtain ⟨h1, p, x, q, h2, _⟩ := hes e (hpm.mem_iff.mp he)
          exact ⟨h1, p, x, q, h2⟩
        · omega
        · intro n hn; have := hns n hn; omega
        · rw [hpm.length_eq]; omega
        · refine .tup (SqT.of upd_same) (.cons (.int m) (.cons (.tup (Wp.sameT (sm7.trans sm8) (SqT.of upd_same)) (Wp.dps_same ((sm6.trans sm7).trans sm8) _ _ hdz)) (.cons (.tup (Wp.sameT sm8 (SqT.of upd_same)) (dps_ints ns)) .nil)))
end
end K01
set_option Elab.async false
set_option linter.all false
set_option maxRecDepth 100000
set_option maxHeartbeats 8000000
namespace K01
open PySem PySem.Spec PyProof.Rows L2
open Wp (tri Keep wo_lt wo_le wo_gt wo_ge wo_eq wo_ne wo_in wo_nin wo_add wo_mul op_shlB ws_any wc_int wc_isi u65)
abbrev s__law_listed : Stmt := topS 26
abbrev N__law_listed : List Str := ["_law_automaton", "_law_edge"]
theorem sc__law_listed : FnScope N__law_listed ["_law_automaton"] (defScope s__law_listed) := ⟨rfl, rfl, rfl, by decide +kernel, rfl, by decide +kernel, by decide +kernel⟩
abbrev s__law_place : Stmt := topS 27
abbrev N__law_place : List Str := ["_law_signs_here", "_law_thing", "raised"]
theorem sc__law_place : FnScope N__law_place ["_law_signs_here", "_law_thing"] (defScope s__law_place) := ⟨rfl, rfl, rfl, by decide +kernel, rfl, by decide +kernel, by decide +kernel⟩
local macro_rules | `(tactic| walk_at "W") => `(tactic| first
  | (with_reducible first
    | refine Wp.seq ?_ | refine Wp.asg ?_ | refine Wp.ret ?_ | refine Wp.retN ?_ | refine Wp.drop ?_ | refine Wp.nxt ?_ | refine Wp.ifs ?_ | refine Wp.gname ?_
    | refine Wp.op ?_ | refine Wp.un ?_ | refine Wp.tst ?_ | refine Wp.tb' ?_ | refine Wp.tnot ?_ | refine Wp.tand ?_ | refine Wp.tor ?_ | refine Wp.tandV ?_ | refine Wp.torV ?_ | refine Wp.tnotV ?_ | refine Wp.tif ?_ | refine Wp.tchain ?_
    | refine Wp.cb ?_ | refine Wp.call ?_ | refine Wp.cons ?_ | refine Wp.nil ?_ | refine Wp.gsub ?_ | refine Wp.cst ?_ | refine Wp.i0 ?_ | refine Wp.int1 ?_ | refine Wp.eb ?_ | refine Wp.ei ?_
    | refine Wp.gnil ?_ | refine Wp.gcons ?_ | refine Wp.mko ?_ | refine Wp.bm ?_ | refine Wp.ienum ?_ | refine Wp.tru ?_ | refine Wp.u1 ?_ | refine Wp.for_ ?_ | refine Wp.lc ?_ | refine Wp.istr ?_ | refine Wp.ilist ?_ | refine Wp.itup ?_ | refine Wp.irng1 ?_ | refine Wp.yes ?_ | refine Wp.es ?_ | refine Wp.er ?_ | refine Wp.sl ?_ | refine Wp.nopart ?_ | refine Wp.part ?_ | refine Wp.lst ?_ | refine Wp.tup ?_
    | refine Wp.ltI ?_ | refine Wp.leI ?_ | refine Wp.leS ?_ | refine Wp.inSg ?_ | refine Wp.gtI ?_ | refine Wp.geI ?_ | refine Wp.eqI ?_ | refine Wp.neI ?_ | refine Wp.addI ?_ | refine Wp.ltS ?_ | refine Wp.eqS ?_ | refine Wp.neS ?_)
  | ((with_reducible refine' Wp.var ?hv ?_); (case hv => exact rfl))
  | ((with_reducible refine' Wp.ixl ?hs ?he ?_); (case hs => first | exact SqL.of upd_same | exact SqL.of (by assumption) | assumption); (case he => exact rfl))
  | ((with_reducible refine' Wp.setl ?hs ?he ?_); (case hs => first | exact upd_same | assumption); (case he => exact rfl))
  | ((with_reducible refine' Wp.modP ?hs ?_); (case hs => first | decide | omega))
  | ((with_reducible refine' Wp.divN ?hs ?ht ?_); (case hs => first | decide | omega); (case ht => first | decide | omega))
  | ((with_reducible refine' Wp.mulM ?hs ?ht ?_); (case hs => decide); (case ht => decide))
  | ((with_reducible refine' Wp.mulL ?hs ?_); (case hs => omega))
  | ((with_reducible refine' Wp.mulR ?hs ?_); (case hs => omega))
  | ((with_reducible refine' Wp.powS ?hs ?_); (case hs => decide))
  | ((with_reducible refine' Wp.shr ?hs ?_); (case hs => decide))
  | ((with_reducible refine' Wp.szl ?hs ?_); (case hs => first | decide | (simp; done)))
  | ((with_reducible refine' Wp.lenL ?hs ?_); (case hs => first | exact SqL.of upd_same | exact SqL.of (by assumption) | assumption))
  | ((with_reducible refine' Wp.lenT ?hs ?_); (case hs => first | exact SqT.of upd_same | exact SqT.of (by assumption) | assumption))
  | ((with_reducible refine' Wp.iteC ?hs ?_); (case hs => exact rfl)) | ((with_reducible refine' Wp.iteD ?hs ?_); (case hs => exact Bool.false_ne_true))
  | ((with_reducible refine' Wp.wp ?hs ?_); (case hs => rfl))
  | (with_reducible first | refine Wp.abs ?_ | refine Wp.max2 ?_ | refine Wp.min2 ?_)
  | ((with_reducible refine' Wp.sll ?hs ?_); (case hs => first | exact SqL.of upd_same | exact SqL.of (by assumption) | assumption)))
local macro_rules | `(tactic| walk_at "KQ") => `(tactic| first
  | exact Wp.kq "int" rfl (by decide +kernel) | exact Wp.kq "bool" rfl (by decide +kernel) | exact Wp.kq "str" rfl (by decide +kernel) | exact Wp.kq "list" rfl (by decide +kernel)
  | exact Wp.kq "tuple" rfl (by decide +kernel) | exact Wp.kq "NoneType" rfl (by decide +kernel) | exact Wp.kq "dict" rfl (by decide +kernel))

section
variable {P : Program} {w : World} {K : PySem.W.Frag} {mg : Str → Option Value} {base : Heap}
def listOf : PyData → PyData
  | .tuple xs => .list xs
  | d => d
def listD (m : Int) (es : List PyData) (ns : List Int) : PyData := .list [.int m, .list (es.map listOf), .list (ns.map .int)]
/-- the three parts of an automaton as it stands -/
theorem auto_parts {H : Hp} {v : V} {m : Int} {es : List PyData} {ns : List Int} (h : Dp K H v (autoD m es ns)) : ∃ r e n us, v = .ref r ∧ SqT K H r [.int m, .ref e, .ref n] ∧ SqT K H e us ∧ DpAll K H us es ∧ SqT K H n (ns.map V.int) := by
  cases h with
  | tup hs ha =>
  cases ha with
  | cons d1 ha =>
  cases ha with
  | cons d2 ha =>
  cases ha with
  | cons d3 ha =>
  cases ha
  cases d1
  cases d2 with
  | tup hs2 ha2 =>
  cases d3 with
  | tup hs3 ha3 =>
  have e : ∀ {vs : List V} {ns : List Int}, DpAll K H vs (ns.map .int) → vs = ns.map V.int := by
    intro vs ns
    induction ns generalizing vs with
    | nil => intro h; cases h; rfl
    | cons n ns ih =>
      intro h
      cases h with
      | cons a b => cases a; rw [ih b]; rfl
  rw [e ha3] at hs3
  exact ⟨_, _, _, _, rfl, hs, hs2, ha2, hs3⟩
/-- lists of three in the place of triples, none of them at A -/
inductive LsA (A : Addr) (H : Hp) : List V → List PyData → Prop
  | nil : LsA A H [] []
  | cons {l : Addr} {p q : Int} {x : Str} {ws : List V} {ds : List PyData} : l ≠ A → H l = some (.lst [.int p, .str x, .int q]) → LsA A H ws ds → LsA A H (.ref l :: ws) (tri p x q :: ds)
theorem LsA.keep {A : Addr} {H H' : Hp} (k : Keep A H H') : ∀ {ws : List V} {ds : List PyData}, LsA A H ws ds → LsA A H' ws ds
  | _, _, .nil => .nil
  | _, _, .cons n e t => .cons n (k _ _ n e) (LsA.keep k t)
theorem LsA.app {A : Addr} {H : Hp} : ∀ {ws vs : List V} {ds es : List PyData}, LsA A H ws ds → LsA A H vs es → LsA A H (ws ++ vs) (ds ++ es)
  | _, _, _, _, .nil, h => h
  | _, _, _, _, .cons n e t, h => .cons n e (LsA.app t h)
theorem LsA.dp {A : Addr} {H : Hp} : ∀ {ws : List V} {ds : List PyData}, LsA A H ws ds → DpAll K H ws (ds.map listOf)
  | _, _, .nil => .nil
  | _, _, .cons _ e t => .cons (.lst (SqL.of e) (.cons (.int _) (.cons (.str _) (.cons (.int _) .nil)))) (LsA.dp t)
theorem LsA.len {A : Addr} {H : Hp} : ∀ {ws : List V} {ds : List PyData}, LsA A H ws ds → ws.length = ds.length
  | _, _, .nil => rfl
  | _, _, .cons _ _ t => by rw [List.length_cons, List.length_cons, LsA.len t]
def spListed (K : PySem.W.Frag) : Sp := fun vs H Q _ => ∃ v m es ns, vs = [v] ∧ Dp K H v (autoD m es ns) ∧ (∀ e ∈ es, ∃ p x q, e = tri p x q) ∧ es.length ≤ 1000 ∧
  ∀ H' p, Same H H' → Dp K H' (.ref p) (listD m es ns) → Q (.ref p) H'
theorem ok_listed (B : Wp.Blt mg) {f : Addr} {fd : FuncData} (F : Fun K "_law_listed" "_law_listed" s__law_listed f fd) : FnOk P w K mg base CX0 1 f fd ["_law_automaton"] (spListed K) := by
  refine F.ok sc__law_listed (fun vs H Q E h => ?_) (fun cdv A outer s H vs Q E hr h => ?_)
  · obtain ⟨v, m, es, ns, rfl, _⟩ := h
    rfl
  · obtain ⟨v, m, es, ns, rfl, hd, htr, hel, q⟩ := h
    obtain ⟨r, e, n, us, rfl, h1, h2, h3, h4⟩ := auto_parts hd
    refine ⟨_, (pss_one (ps_ret (pe_lst (pa_cons (pe_ix (Wp.wx_seq (K := K)) (pv 0) pe_int (fun _ _ => rfl)) (pa_cons (pe_lc (own := [("_law_edge", 1)]) (g := gName 1) (by rfl) sc__law_listed.nd (Wp.wi_tup (K := K) (pe_ix (Wp.wx_seq (K := K)) (pv 0) pe_int (fun _ _ => rfl))) (blkOk_by (own := [("_law_edge", 1)]) (N := N__law_listed) (sc := defScope s__law_listed) (by decide +kernel)) (fun _ _ _ _ _ => pg_name (i := 1) sc__law_listed.nd rfl (Or.inl rfl)) (fun _ _ _ _ _ => pts_nil) (fun _ _ _ _ _ => (pe_callTy (Wp.wc_list (K := K)) (by rfl) B.list (by decide +kernel) (pa_cons (pv 1) pa_nil)))) (pa_cons (pe_callTy (Wp.wc_list (K := K)) (by rfl) B.list (by decide +kernel) (pa_cons (pe_ix (Wp.wx_seq (K := K)) (pv 0) pe_int (fun _ _ => rfl)) pa_nil)) pa_nil)))))), ?_⟩
    refine Wp.st (σ' := [some (.ref r), none]) rfl ?_
    repeat walk_at "W"
    refine Wp.ixt h1 rfl ?_
    repeat walk_at "W"
    refine Wp.ixt h1 rfl ?_
    repeat walk_at "W"
    refine ⟨⟨_, h2⟩, fun A hA => ?_⟩
    have hul := Wp.dps_len h3
    have sm0 := Wp.same_upd (o := .lst []) hA
    refine Wp.lcIt walk_tup (fun i H1 => Same H H1 ∧ ∃ ws, H1 A = some (.lst ws) ∧ LsA A H1 ws (es.take i)) ⟨sm0, [], upd_same, .nil⟩ (fun i H1 _ h => Wp.sameT h.1 h2) ?_ ?_
    · rintro i x H1 H1' hi ⟨s1, ws, hl, hws⟩ ⟨rfl, hx⟩
      obtain ⟨d, hdi, hdx⟩ := Wp.dps_get h3 hx
      obtain ⟨p, y, z, rfl⟩ := htr d (List.mem_of_getElem? hdi)
      cases Wp.dp_same s1 _ _ hdx with
      | @tup t ys _ hs ha =>
      cases ha with
      | cons a1 ha =>
      cases ha with
      | cons a2 ha =>
      cases ha with
      | cons a3 ha =>
      cases ha; cases a1; cases a2; cases a3
      repeat walk_at "W"
      refine Wp.lstT hs fun l hl2 => ?_
      have sm2 := Wp.same_upd (o := .lst [.int p, .str y, .int z]) hl2
      have hlA : l ≠ A := fun z => by rw [z, hl] at hl2; cases hl2
      have hwl := hws.len
      rw [List.length_take] at hwl
      refine ⟨ws, sm2 _ _ hl, small1000 (by omega), fun b o e => ?_, _, upd_same, ?_⟩
      · rw [upd_ne (ne_of_none e hA)]; exact sm2 _ _ (s1 _ _ e)
      · rw [List.take_add_one, hdi]
        refine LsA.app (hws.keep ((Wp.Keep.of sm2).trans (Wp.Keep.upd A _ _))) (.cons hlA ?_ .nil)
        rw [upd_ne hlA]; exact upd_same
    · rintro H1 ⟨s1, ws, hl, hws⟩
      rw [hul, List.take_length] at hws
      repeat walk_at "W"
      refine Wp.ixt (Wp.sameT s1 h1) rfl ?_
      repeat walk_at "W"
      refine Wp.lstT (Wp.sameT s1 h4) fun l hl2 => ?_
      have sm2 := Wp.same_upd (o := .lst (ns.map V.int)) hl2
      repeat walk_at "W"
      intro t ht
      have sm3 := Wp.same_upd (o := .lst [.int m, .ref A, .ref l]) ht
      refine q _ _ ((s1.trans sm2).trans sm3) (.lst (SqL.of upd_same) (.cons (.int m) (.cons (.lst (SqL.of (sm3 _ _ (sm2 _ _ hl))) (Wp.dps_same (sm2.trans sm3) _ _ hws.dp)) (.cons (.lst (SqL.of (sm3 _ _ upd_same)) (dps_ints ns)) .nil))))
/-- which errors are caught, and what they say of isinstance -/
structure Ca (K : PySem.W.Frag) (mg : Str → Option Value) (x : Str) (C : Addr) (fld : Str) : Prop where
  g : mg x = some (.ref C)
  te : PySem.W.exmOne K (.ref C) (.ref C) = some true
  xf : XfC K C
  no : PySem.W.findIn K (.ref C) fld = some none
  ec : ExcC K C
def spPlace (K : PySem.W.Frag) : Sp := fun vs H Q _ => ∃ sg v d, vs = [.str sg, v] ∧ Dp K H v d ∧ Wp.sm d = true ∧ goodSigns (.str sg) = true ∧ sg.length ≤ 1000 ∧
  (∀ r, autoOf sg d = .ok r → ∀ H', Same H H' → Q .non H') ∧ (∀ i, autoOf sg d = .error i → ∀ H', Same H H' → Q (.int i) H')
theorem ok_place (B : Wp.Blt mg) {f fC CS CA CI CR CT : Addr} {fd fdC : FuncData} (F : Fun K "_law_place" "_law_place" s__law_place f fd)
    (D_checked_automaton : Wp.Dh K mg "checked_automaton" fC fdC ["signs", "thing"]) (G_checked_automaton : FnOk P w K mg base (L2.CX P w) 6 fC fdC ["signs", "thing"] (spChecked K CS CA))
    (T : Ca K mg "BadAutomaton" CA "place") (k_WrongItem : mg "WrongItem" = some (.ref CI)) (k_ShrunkError : mg "ShrunkError" = some (.ref CR)) (k_WrongThing : mg "WrongThing" = some (.ref CT))
    (i1 : PySem.W.kitOne K (.ref CA) (.ref CI) = some true) (i2 : PySem.W.kitOne K (.ref CA) (.ref CR) = some true) (i3 : PySem.W.kitOne K (.ref CA) (.ref CT) = some false) : FnOk P w K mg base CX0 7 f fd ["_law_signs_here", "_law_thing"] (spPlace K) := by
  refine F.ok sc__law_place (fun vs H Q E h => ?_) (fun cdv A outer s H vs Q E hr h => ?_)
  · obtain ⟨sg, v, d, rfl, _⟩ := h
    rfl
  · obtain ⟨sg, v, d, rfl, hd, hsm, hg, hl, qo, qe⟩ := h
    refine ⟨_, pss_cons (ps_try_as (i := 2) (tb := fun W => tDrop (tCallS (spChecked K CS CA) (WE W) (tCons (tVar 0) (tCons (tVar 1) tNil)))) (Wout := fun _ _ _ _ => False) rfl rfl sc__law_place.nd rfl rfl ⟨rfl, by decide, Or.inl T.g⟩ takes0
        (fun W pn xe tk _ => pss_one (ps_expr (by exact (pe_callS G_checked_automaton (hr.mono (by decide)) rfl D_checked_automaton.g D_checked_automaton.k D_checked_automaton.b (fun σ => passAt tk σ) (by exact (pa_cons (pv 0) (pa_cons (pv 1) pa_nil)))))))
        (fun a oe cls d pn hz hf => pss_cons (ps_if (PW.pt (pw_or (pt_not (pt_val (pe_callB (Wp.call_isEd (K := K) T.ec hz hf) (by rfl) B.isinstance (by decide +kernel) (pa_cons (pv 2) (pa_cons (pe_glob (v := .ref CI) (by rfl) k_WrongItem rfl) pa_nil)))))
            (pw_or (pt_not (pt_val (pe_callB (Wp.call_isEd (K := K) T.ec hz hf) (by rfl) B.isinstance (by decide +kernel) (pa_cons (pv 2) (pa_cons (pe_glob (v := .ref CR) (by rfl) k_ShrunkError rfl) pa_nil)))))
            (pw_or1 (pt_val (pe_callB (Wp.call_isEd (K := K) T.ec hz hf) (by rfl) B.isinstance (by decide +kernel) (pa_cons (pv 2) (pa_cons (pe_glob (v := .ref CT) (by rfl) k_WrongThing rfl) pa_nil))))))))
          (pss_one (ps_ret (pe_tup (pa_cons pe_str (pa_cons (pe_xf T.xf T.no hz hf (pv 2)) pa_nil))))) pss_nil) (pss_one (ps_ret (pe_xf T.xf T.no hz hf (pv 2))))))
      (pss_one (ps_ret pe_non)), ?_⟩
    refine Wp.st (σ' := [some (.str sg), some v, none]) rfl ?_
    refine Wp.seq ?_
    refine (show tDrop _ _ _ _ from Wp.drop ?_)
    refine (show tCons _ _ _ _ _ from ?_)
    repeat walk_at "W"
    refine ⟨.str sg, .str sg, v, d, rfl, .str sg, hd, fun z e => (by cases e; omega), fun _ => hsm, fun hb => (by rw [hg] at hb; cases hb), fun sg' e _ => ?_⟩
    cases e
    refine ⟨fun r hr H' u s1 _ => ?_, fun i hi dd H' h1 s1 h3 => ⟨true, T.te, fun _ a0 ha0 => ?_, fun q => Bool.noConfusion q⟩⟩
    · repeat walk_at "W"
      exact qo r hr H' s1
    · repeat walk_at "W"
      refine ⟨.ref CI, .ref CI, true, rfl, rfl, fun u r => r, i1, ⟨dd, _, rfl, h3⟩, ?_⟩
      repeat walk_at "W"
      refine ⟨.ref CR, .ref CR, true, rfl, rfl, fun u r => r, i2, ⟨dd, _, rfl, h3⟩, ?_⟩
      repeat walk_at "W"
      refine ⟨.ref CT, .ref CT, false, rfl, rfl, fun u r => r, i3, ⟨dd, _, rfl, h3⟩, ?_⟩
      repeat walk_at "W"
      exact ⟨_, rfl, rfl, rfl, dd, _, .int i, rfl, h3, rfl, qe i hi H' s1⟩
end
end K01
set_option Elab.async false
set_option linter.all false
set_option maxRecDepth 100000
namespace K01
open PySem PySem.Spec PyProof.Rows L2
open Wp (tri)
theorem dataLt_asymm {p q p' q' : Int} {x x' : Str} (h : PySem.W.dataLt (tri p x q) (tri p' x' q') = true) : PySem.W.dataLt (tri p' x' q') (tri p x q) = false := by
  rw [tri_lt] at h ⊢
  by_cases h1 : p = p'
  · rw [if_pos h1] at h
    rw [if_pos h1.symm]
    by_cases h3 : x = x'
    · rw [if_pos h3] at h
      rw [if_pos h3.symm]
      have := of_decide_eq_true h
      exact decide_eq_false (by omega)
    · rw [if_neg h3] at h
      rw [if_neg (fun z => h3 z.symm)]
      have := of_decide_eq_true h
      exact decide_eq_false (List.not_lt.mpr (List.le_of_lt this))
  · rw [if_neg h1] at h
    rw [if_neg (fun z => h1 z.symm)]
    have := of_decide_eq_true h
    exact decide_eq_false (by omega)
variable {sg : Str} {m : Int}
abbrev okE (sg : Str) (m : Int) (e : PyData) : Prop := isEdge sg m e = true ∧ ∃ p x q, e = tri p x q
abbrev ltD (a b : PyData) : Prop := PySem.W.dataLt a b = true
theorem edge_cons {prev : Option PyData} {d : PyData} {r : List PyData} {i : Nat} : edgeBad sg m prev (d :: r) i = if isEdge sg m d = false then some i else if notUp prev (tupOf d) = true then some i else edgeBad sg m (some (tupOf d)) r (i + 1) := rfl
theorem edge_run : ∀ (l rest : List PyData) (prev : Option PyData) (i : Nat), (∀ e ∈ l, okE sg m e) → l.Pairwise ltD → (∀ p, prev = some p → ∀ e ∈ l, ltD p e) →
    ∃ prev', edgeBad sg m prev (l ++ rest) i = edgeBad sg m prev' rest (i + l.length) ∧ ((l = [] ∧ prev' = prev) ∨ ∃ z ∈ l.getLast?, prev' = some z)
  | [], rest, prev, i, _, _, _ => ⟨prev, rfl, .inl ⟨rfl, rfl⟩⟩
  | d :: l, rest, prev, i, h, hp, hu => by
    obtain ⟨h1, p, x, q, rfl⟩ := h d List.mem_cons_self
    obtain ⟨hp1, hp2⟩ := List.pairwise_cons.mp hp
    have hn : notUp prev (tupOf (tri p x q)) = false := by
      cases prev with
      | none => rfl
      | some z =>
        show (!PySem.W.dataLt z (tri p x q)) = false
        rw [hu z rfl _ List.mem_cons_self]; rfl
    obtain ⟨prev', e, hl⟩ := edge_run l rest (some (tri p x q)) (i + 1) (fun e he => h e (List.mem_cons_of_mem _ he)) hp2 (fun z hz e he => by cases hz; exact hp1 e he)
    refine ⟨prev', ?_, .inr ?_⟩
    · rw [List.cons_append, edge_cons, if_neg (by rw [h1]; simp), if_neg (by rw [hn]; simp)]
      rw [show i + (tri p x q :: l).length = i + 1 + l.length by rw [List.length_cons]; omega]
      exact e
    · rcases hl with ⟨rfl, rfl⟩ | ⟨z, hz, rfl⟩
      · exact ⟨_, rfl, rfl⟩
      · refine ⟨z, ?_, rfl⟩
        cases l with
        | nil => cases hz
        | cons a b => exact hz
theorem edge_good {es : List PyData} (h : ∀ e ∈ es, okE sg m e) (hp : es.Pairwise ltD) : edgeBad sg m none es 0 = none := by
  obtain ⟨prev', e, _⟩ := edge_run es [] none 0 h hp (fun _ z => nomatch z)
  rw [List.append_nil] at e
  rw [e]; rfl
/-- a thing that is no edge in the place of one -/
theorem edge_no {es : List PyData} {k : Nat} {d : PyData} (hk : k < es.length) (h : ∀ e ∈ es, okE sg m e) (hp : es.Pairwise ltD) (hd : isEdge sg m d = false) (r : List PyData) : edgeBad sg m none (es.take k ++ d :: r) 0 = some k := by
  obtain ⟨prev', e, _⟩ := edge_run (es.take k) (d :: r) none 0 (fun e he => h e (List.mem_of_mem_take he)) (hp.sublist (List.take_sublist _ _)) (fun _ z => nomatch z)
  rw [e, edge_cons, if_pos hd, List.length_take]
  congr 1; omega
theorem edge_twice {es : List PyData} {k : Nat} {d : PyData} (hk : es[k]? = some d) (h : ∀ e ∈ es, okE sg m e) (hp : es.Pairwise ltD) (r : List PyData) : edgeBad sg m none (es.take (k + 1) ++ d :: r) 0 = some (k + 1) := by
  have hl : k < es.length := (List.getElem?_eq_some_iff.mp hk).1
  obtain ⟨prev', e, hl2⟩ := edge_run (es.take (k + 1)) (d :: r) none 0 (fun e he => h e (List.mem_of_mem_take he)) (hp.sublist (List.take_sublist _ _)) (fun _ z => nomatch z)
  have hlast : (es.take (k + 1)).getLast? = some d := by
    rw [List.getLast?_eq_getElem?, List.length_take, List.getElem?_take, if_pos (by omega)]
    rw [show min (k + 1) es.length - 1 = k by omega]; exact hk
  obtain ⟨h1, p, x, q, rfl⟩ := h d (List.mem_of_getElem? hk)
  have hprev : prev' = some (tri p x q) := by
    rcases hl2 with ⟨z, _⟩ | ⟨z, hz, rfl⟩
    · rw [z] at hlast; cases hlast
    · rw [hlast] at hz; cases hz; rfl
  rw [e, hprev, edge_cons, if_neg (by rw [h1]; simp), if_pos, List.length_take]
  · congr 1; omega
  · show (!PySem.W.dataLt (tri p x q) (tri p x q)) = true
    rw [tri_lt, if_pos rfl, if_pos rfl, decide_eq_false (by omega)]; rfl
theorem edge_swap {es : List PyData} {k : Nat} {d d' : PyData} (hk : es[k]? = some d) (hk' : es[k + 1]? = some d') (h : ∀ e ∈ es, okE sg m e) (hp : es.Pairwise ltD) (r : List PyData) : edgeBad sg m none (es.take k ++ d' :: d :: r) 0 = some (k + 1) := by
  have hl : k + 1 < es.length := (List.getElem?_eq_some_iff.mp hk').1
  have e0 : es.take k ++ d' :: d :: r = (es.take k ++ [d']) ++ d :: r := by simp
  have hsub : ∀ e ∈ es.take k ++ [d'], okE sg m e := fun e he => by
    rcases List.mem_append.mp he with z | z
    · exact h e (List.mem_of_mem_take z)
    · rw [List.mem_singleton.mp z]; exact h _ (List.mem_of_getElem? hk')
  have hlt : ∀ i j a b, es[i]? = some a → es[j]? = some b → i < j → ltD a b := fun i j a b ha hb hij => by
    obtain ⟨h1, rfl⟩ := List.getElem?_eq_some_iff.mp ha
    obtain ⟨h2, rfl⟩ := List.getElem?_eq_some_iff.mp hb
    exact List.pairwise_iff_getElem.mp hp i j h1 h2 hij
  have hpw : (es.take k ++ [d']).Pairwise ltD := List.pairwise_append.mpr ⟨hp.sublist (List.take_sublist _ _), List.pairwise_singleton _ _, fun a ha b hb => by
    rw [List.mem_singleton.mp hb]
    obtain ⟨i, hi⟩ := List.mem_iff_getElem?.mp ha
    rw [List.getElem?_take] at hi
    split at hi
    · exact hlt i (k + 1) a d' hi hk' (by omega)
    · cases hi⟩
  obtain ⟨prev', e, hl2⟩ := edge_run (es.take k ++ [d']) (d :: r) none 0 hsub hpw (fun _ z => nomatch z)
  have hprev : prev' = some d' := by
    rcases hl2 with ⟨z, _⟩ | ⟨z, hz, rfl⟩
    · simp at z
    · rw [List.getLast?_append] at hz
      cases hz; rfl
  have hdd := hlt k (k + 1) d d' hk hk' (by omega)
  obtain ⟨h1, p, x, q, rfl⟩ := h d (List.mem_of_getElem? hk)
  obtain ⟨_, p', x', q', rfl⟩ := h d' (List.mem_of_getElem? hk')
  rw [e0, e, hprev, edge_cons, if_neg (by rw [h1]; simp), if_pos, List.length_append, List.length_take]
  · simp; omega
  · show (!PySem.W.dataLt (tri p' x' q') (tri p x q)) = true
    rw [dataLt_asymm hdd]; rfl
/-! the ends -/
theorem end_cons {b : Int} {d : PyData} {r : List PyData} {i : Nat} : endBad m b (d :: r) i = if Wp.between (b + 1) (m - 1) d = false then some i else endBad m (valOf d) r (i + 1) := rfl
theorem end_run : ∀ (l : List Int) (rest : List PyData) (b : Int) (i : Nat), (∀ n ∈ l, n ≤ m - 1 ∧ b < n) → l.Pairwise (· < ·) →
    ∃ b', endBad m b (l.map .int ++ rest) i = endBad m b' rest (i + l.length) ∧ b ≤ b' ∧ ((l = [] ∧ b' = b) ∨ l.getLast? = some b')
  | [], rest, b, i, _, _ => ⟨b, rfl, Int.le_refl _, .inl ⟨rfl, rfl⟩⟩
  | n :: l, rest, b, i, h, hp => by
    obtain ⟨h1, h2⟩ := h n List.mem_cons_self
    obtain ⟨hp1, hp2⟩ := List.pairwise_cons.mp hp
    obtain ⟨b', e, hb, hl⟩ := end_run l rest n (i + 1) (fun k hk => ⟨(h k (List.mem_cons_of_mem _ hk)).1, hp1 k hk⟩) hp2
    refine ⟨b', ?_, by omega, .inr ?_⟩
    · rw [List.map_cons, List.cons_append, end_cons, if_neg]
      · rw [show i + (n :: l).length = i + 1 + l.length by rw [List.length_cons]; omega]
        exact e
      · show ¬ ((decide (b + 1 ≤ n) && decide (n ≤ m - 1)) = false)
        rw [decide_eq_true (by omega), decide_eq_true h1]; simp
    · rcases hl with ⟨rfl, rfl⟩ | hz
      · rfl
      · cases l with
        | nil => cases hz
        | cons a b => exact hz
theorem end_good {ns : List Int} (h : ∀ n ∈ ns, 0 ≤ n ∧ n ≤ m - 1) (hp : ns.Pairwise (· < ·)) : endBad m (-1) (ns.map .int) 0 = none := by
  obtain ⟨b', e, _, _⟩ := end_run ns [] (-1) 0 (fun n hn => ⟨(h n hn).2, by have := (h n hn).1; omega⟩) hp
  rw [List.append_nil] at e
  rw [e]; rfl
theorem end_no {ns : List Int} {k : Nat} {d : PyData} (hk : k < ns.length) (h : ∀ n ∈ ns, 0 ≤ n ∧ n ≤ m - 1) (hp : ns.Pairwise (· < ·)) (hd : ∀ b : Int, -1 ≤ b → Wp.between (b + 1) (m - 1) d = false) (r : List PyData) : endBad m (-1) ((ns.take k).map .int ++ d :: r) 0 = some k := by
  obtain ⟨b', e, hb, _⟩ := end_run (ns.take k) (d :: r) (-1) 0 (fun n hn => by have := h n (List.mem_of_mem_take hn); exact ⟨this.2, by omega⟩) (hp.sublist (List.take_sublist _ _))
  rw [e, end_cons, if_pos (hd b' hb), List.length_take]
  congr 1; omega
theorem end_twice {ns : List Int} {k : Nat} {n : Int} (hk : ns[k]? = some n) (h : ∀ n ∈ ns, 0 ≤ n ∧ n ≤ m - 1) (hp : ns.Pairwise (· < ·)) (r : List PyData) : endBad m (-1) ((ns.take (k + 1)).map .int ++ .int n :: r) 0 = some (k + 1) := by
  have hl : k < ns.length := (List.getElem?_eq_some_iff.mp hk).1
  obtain ⟨b', e, hb, hl2⟩ := end_run (ns.take (k + 1)) (.int n :: r) (-1) 0 (fun n hn => by have := h n (List.mem_of_mem_take hn); exact ⟨this.2, by omega⟩) (hp.sublist (List.take_sublist _ _))
  have hlast : (ns.take (k + 1)).getLast? = some n := by
    rw [List.getLast?_eq_getElem?, List.length_take, List.getElem?_take, if_pos (by omega)]
    rw [show min (k + 1) ns.length - 1 = k by omega]; exact hk
  have hb' : b' = n := by
    rcases hl2 with ⟨z, _⟩ | z
    · rw [z] at hlast; cases hlast
    · rw [hlast] at z; cases z; rfl
  rw [e, hb', end_cons, if_pos, List.length_take]
  · congr 1; omega
  · show (decide (n + 1 ≤ n) && _) = false
    rw [decide_eq_false (by omega)]; rfl
theorem end_swap {ns : List Int} {k : Nat} {n n' : Int} (hk : ns[k]? = some n) (hk' : ns[k + 1]? = some n') (h : ∀ n ∈ ns, 0 ≤ n ∧ n ≤ m - 1) (hp : ns.Pairwise (· < ·)) (r : List PyData) : endBad m (-1) ((ns.take k).map .int ++ .int n' :: .int n :: r) 0 = some (k + 1) := by
  have hl : k + 1 < ns.length := (List.getElem?_eq_some_iff.mp hk').1
  have hlt : ∀ i j a b, ns[i]? = some a → ns[j]? = some b → i < j → a < b := fun i j a b ha hb hij => by
    obtain ⟨h1, rfl⟩ := List.getElem?_eq_some_iff.mp ha
    obtain ⟨h2, rfl⟩ := List.getElem?_eq_some_iff.mp hb
    exact List.pairwise_iff_getElem.mp hp i j h1 h2 hij
  have hpw : (ns.take k ++ [n']).Pairwise (· < ·) := List.pairwise_append.mpr ⟨hp.sublist (List.take_sublist _ _), List.pairwise_singleton _ _, fun a ha b hb => by
    rw [List.mem_singleton.mp hb]
    obtain ⟨i, hi⟩ := List.mem_iff_getElem?.mp ha
    rw [List.getElem?_take] at hi
    split at hi
    · exact hlt i (k + 1) a n' hi hk' (by omega)
    · cases hi⟩
  obtain ⟨b', e, hb, hl2⟩ := end_run (ns.take k ++ [n']) (.int n :: r) (-1) 0 (fun z hz => by
    rcases List.mem_append.mp hz with y | y
    · have := h z (List.mem_of_mem_take y); exact ⟨this.2, by omega⟩
    · rw [List.mem_singleton.mp y]; have := h n' (List.mem_of_getElem? hk'); exact ⟨this.2, by omega⟩) hpw
  have hb' : b' = n' := by
    rcases hl2 with ⟨z, _⟩ | z
    · simp at z
    · rw [List.getLast?_append] at z; cases z; rfl
  have hnn := hlt k (k + 1) n n' hk hk' (by omega)
  have e0 : (ns.take k).map PyData.int ++ .int n' :: .int n :: r = (ns.take k ++ [n']).map PyData.int ++ .int n :: r := by simp
  rw [e0, e, hb', end_cons, if_pos, List.length_append, List.length_take]
  · simp; omega
  · show (decide (n' + 1 ≤ n) && _) = false
    rw [decide_eq_false (by omega)]; rfl
/-! the whole -/
theorem auto_eq {E N : PyData} {es ns : List PyData} {m : Int} (h1 : 1 ≤ m) (h2 : m ≤ 40) (hE : Wp.row E = some es) (hN : Wp.row N = some ns) (hl : es.length ≤ 400) {d : PyData} (hd : Wp.row d = some [.int m, E, N]) : autoOf sg d = (match edgeBad sg m none es 0 with
    | some i => .error (i : Nat)
    | none => match endBad m (-1) ns 0 with
      | some i => .error ((es.length : Int) + (i : Nat))
      | none => .ok (.tuple [.int m, .tuple (es.map tupOf), .tuple ns])) := by
  unfold autoOf; rw [hd]
  have hb : Wp.between 1 40 (.int m) = true := by
    show (decide (1 ≤ m) && decide (m ≤ 40)) = true
    rw [decide_eq_true h1, decide_eq_true h2]; rfl
  refine (if_pos ⟨hb, by rw [hE]; rfl, by rw [hN]; rfl, by rw [hE]; exact hl⟩).trans ?_
  rw [hE, hN]; rfl
theorem map_tup {es : List PyData} (h : ∀ e ∈ es, ∃ p x q, e = tri p x q) : es.map tupOf = es := by
  induction es with
  | nil => rfl
  | cons e es ih =>
    obtain ⟨p, x, q, rfl⟩ := h e List.mem_cons_self
    rw [List.map_cons, ih fun e he => h e (List.mem_cons_of_mem _ he)]; rfl
theorem auto_good {es : List PyData} {ns : List Int} (g : Good sg m es ns) : autoOf sg (autoD m es ns) = .ok (autoD m es ns) := by
  rw [auto_eq (sg := sg) (E := .tuple es) (N := .tuple (ns.map .int)) g.m1 g.m2 rfl rfl (by have := g.el; omega) rfl, edge_good (m := m) g.ee g.ep, end_good (m := m) g.nn g.np, map_tup fun e he => (g.ee e he).2]; rfl
theorem edge_list : ∀ (es : List PyData), (∀ e ∈ es, okE sg m e) → ∀ (prev : Option PyData) (i : Nat), edgeBad sg m prev (es.map listOf) i = edgeBad sg m prev es i
  | [], _, _, _ => rfl
  | e :: es, h, prev, i => by
    obtain ⟨h1, p, x, q, rfl⟩ := h e List.mem_cons_self
    rw [List.map_cons, edge_cons, edge_cons, edge_list es fun e he => h e (List.mem_cons_of_mem _ he)]; rfl
theorem auto_list {es : List PyData} {ns : List Int} (g : Good sg m es ns) : autoOf sg (listD m es ns) = .ok (autoD m es ns) := by
  rw [auto_eq (sg := sg) (E := .list (es.map listOf)) (N := .list (ns.map .int)) g.m1 g.m2 rfl rfl (by rw [List.length_map]; have := g.el; omega) rfl, edge_list es g.ee, edge_good (m := m) g.ee g.ep, end_good (m := m) g.nn g.np]
  have e : (es.map listOf).map tupOf = es := by
    rw [List.map_map]
    conv => rhs; rw [← List.map_id es]
    refine List.map_congr_left fun e he => ?_
    obtain ⟨p, x, q, rfl⟩ := (g.ee e he).2
    rfl
  show Except.ok (PyData.tuple [.int m, .tuple ((es.map listOf).map tupOf), .tuple (ns.map .int)]) = _
  rw [e]; rfl
end K01
set_option Elab.async false
set_option linter.all false
set_option maxRecDepth 100000
namespace Wp
open PySem PySem.Spec PyProof.Rows L2
section
variable {K : PySem.W.Frag} {H : Hp} {Q : VK}
theorem cut_hi {xs : List V} {i : Int} (k : Nat) (e : i = k) : cutV xs none (some i) = xs.take k := by
  subst e
  unfold cutV
  rw [HT.sIx_none, HT.sIx_nat, List.drop_zero, Nat.sub_zero]
  rcases Nat.le_total k xs.length with h | h
  · rw [Nat.min_eq_left h]
  · rw [Nat.min_eq_right h, List.take_length, List.take_of_length_le h]
theorem cut_lo {xs : List V} {i : Int} (k : Nat) (e : i = k) : cutV xs (some i) none = xs.drop k := by
  subst e
  unfold cutV
  rw [HT.sIx_none, HT.sIx_nat]
  rw [List.take_of_length_le (by rw [List.length_drop]; omega)]
  rcases Nat.le_total k xs.length with h | h
  · rw [Nat.min_eq_left h]
  · rw [Nat.min_eq_right h, List.drop_length, List.drop_of_length_le h]
theorem slT {p : Addr} {xs ys : List V} {lo hi : Option Int} (s : SqT K H p xs) (e : cutV xs lo hi = ys) (h : ∀ q H', Same H H' → SqT K H' q ys → Q (.ref q) H') : rSlU K (.ref p) lo hi H Q := by
  subst e
  refine .inr (.inl ⟨p, xs, rfl, s, fun z => ?_, fun _ q hq => ?_⟩)
  · refine h p H (Same.refl _) ?_
    unfold cutV
    rw [z.1, z.2, List.drop_zero, Nat.sub_zero, List.take_length]
    exact s
  · exact h q _ (same_upd hq) (SqT.of upd_same)
theorem catT {a b : Addr} {xs ys : List V} (s : SqT K H a xs) (t : SqT K H b ys) (hz : xs.length + ys.length ≤ 1000) (h : ∀ q H', Same H H' → SqT K H' q (xs ++ ys) → Q (.ref q) H') : rAddU K (.ref a) (.ref b) H Q := by
  refine addT ⟨a, b, xs, ys, rfl, rfl, s, t, Nat.le_of_lt (small1000 hz), fun z => ?_, fun _ z => ?_, fun _ _ q hq => h q _ (same_upd hq) (SqT.of upd_same)⟩
  · subst z; exact h b H (Same.refl _) t
  · subst z; exact h a H (Same.refl _) (by rw [List.append_nil]; exact s)
theorem dps_take : ∀ {vs : List V} {ds : List PyData} (k : Nat), DpAll K H vs ds → DpAll K H (vs.take k) (ds.take k)
  | _, _, 0, _ => by rw [List.take_zero, List.take_zero]; exact .nil
  | _, _, k + 1, .nil => .nil
  | _, _, k + 1, .cons r t => .cons r (dps_take k t)
theorem dps_drop : ∀ {vs : List V} {ds : List PyData} (k : Nat), DpAll K H vs ds → DpAll K H (vs.drop k) (ds.drop k)
  | _, _, 0, h => h
  | _, _, k + 1, .nil => .nil
  | _, _, k + 1, .cons r t => dps_drop k t
theorem dps_at {vs : List V} {ds : List PyData} {r : Int} (h : DpAll K H vs ds) (h0 : 0 ≤ r) (h1 : r < (vs.length : Int)) : ∃ v d, atI vs r = some v ∧ d ∈ ds ∧ Dp K H v d := by
  have hk : r.toNat < vs.length := by omega
  have q := atI_nat (List.getElem?_eq_getElem hk)
  rw [Int.toNat_of_nonneg h0] at q
  obtain ⟨d, h2, h3⟩ := dps_get h (List.getElem?_eq_getElem hk)
  exact ⟨_, d, q, List.mem_of_getElem? h2, h3⟩
theorem smA_of : ∀ {ds : List PyData}, (∀ d ∈ ds, sm d = true) → smA ds = true
  | [], _ => rfl
  | d :: ds, h => by
    show (sm d && smA ds) = true
    rw [h d List.mem_cons_self, smA_of fun e he => h e (List.mem_cons_of_mem _ he)]; rfl
theorem noLA_of : ∀ {ds : List PyData}, (∀ d ∈ ds, noL d = true) → noLA ds = true
  | [], _ => rfl
  | d :: ds, h => by
    rw [noLA, h d List.mem_cons_self, noLA_of fun e he => h e (List.mem_cons_of_mem _ he)]; rfl
theorem sm_tup {ds : List PyData} (h : ∀ d ∈ ds, sm d = true) : sm (.tuple ds) = true := smA_of h
theorem noL_tup {ds : List PyData} (h : ∀ d ∈ ds, noL d = true) : noL (.tuple ds) = true := by rw [noL]; exact noLA_of h
end
end Wp
namespace K01
open PySem PySem.Spec PyProof.Rows L2
open Wp (tri)
variable {sg : Str} {m : Int}
theorem okE_tri {p q : Int} {x : Str} (h : okE sg m (tri p x q)) : 0 ≤ p ∧ p ≤ m - 1 ∧ 0 ≤ q ∧ q ≤ m - 1 ∧ x.length ≤ 1 ∧ Wp.isText sg 1 (.str x) = true := by
  obtain ⟨h, _⟩ := h
  have h1 : (Wp.between 0 (m - 1) (.int p) && Wp.between 0 (m - 1) (.int q) && Wp.isText sg 1 (.str x)) = true := h
  rw [Bool.and_eq_true, Bool.and_eq_true] at h1
  obtain ⟨⟨a, b⟩, c⟩ := h1
  have a : (decide (0 ≤ p) && decide (p ≤ m - 1)) = true := a
  have b : (decide (0 ≤ q) && decide (q ≤ m - 1)) = true := b
  have c2 : (decide ((x.length : Int) ≤ 1) && x.cps.toList.all fun c => decide (c ∈ sg.cps.toList)) = true := c
  rw [Bool.and_eq_true] at a b c2
  have a1 := of_decide_eq_true a.1
  have a2 := of_decide_eq_true a.2
  have b1 := of_decide_eq_true b.1
  have b2 := of_decide_eq_true b.2
  have c1 := of_decide_eq_true c2.1
  exact ⟨a1, a2, b1, b2, by omega, c⟩
theorem sm_s {x : Str} (h : x.length ≤ 1) : Wp.sm (.str x) = true := decide_eq_true (by omega)
theorem sm_tri {p q : Int} {x : Str} (h : x.length ≤ 1) : Wp.sm (tri p x q) = true := by
  show (Wp.sm (.int p) && (Wp.sm (.str x) && (Wp.sm (.int q) && true))) = true
  rw [sm_s h]; rfl
theorem sm_okE {e : PyData} (h : okE sg m e) : Wp.sm e = true := by
  obtain ⟨p, x, q, rfl⟩ := h.2
  exact sm_tri (okE_tri h).2.2.2.2.1
theorem noL_okE {e : PyData} (h : okE sg m e) : Wp.noL e = true := by
  obtain ⟨p, x, q, rfl⟩ := h.2
  rfl
theorem no_q : ∀ sg ∈ menu, (113 : Nat) ∉ sg.cps.toList := by decide
def badEdges (m p : Int) (x : Str) (q : Int) : List PyData := [tri m x q, tri p x m, tri p "q" q, tri p "aa" q, .tuple [.int p, .str x], .tuple [.bool true, .str x, .int q], .tuple [.int p, .int 7, .int q], tri p x (-1), .str "a", .tuple [.int p, .str x, .int q, .int 0], .none]
def badEnds (m : Int) : List PyData := [.int m, .int (-1), .str "0", .none, .bool false, .int (m + 7)]
def oddM : List PyData := [.int 0, .int 41, .bool true, .str "3", .none, .int (-1)]
def badAutos (o : PyData) (m : Int) (es : List PyData) (ns : List Int) : List PyData := [.tuple [o, .tuple es, .tuple (ns.map .int)], .tuple [.int m, .tuple es], .tuple [.int m, .str "ab", .tuple (ns.map .int)], .tuple [.int m, .tuple es, .int 0], .tuple [.int m, .tuple es, .none], .str "automaton", .tuple [.int m, .tuple es, .tuple (ns.map .int), .tuple []], .none]
theorem btw_no {i : Int} {lo hi : Int} (h : ¬ (lo ≤ i ∧ i ≤ hi)) : Wp.between lo hi (.int i) = false := by
  show (decide (lo ≤ i) && decide (i ≤ hi)) = false
  by_cases h1 : lo ≤ i
  · rw [decide_eq_false (fun z => h ⟨h1, z⟩), Bool.and_false]
  · rw [decide_eq_false h1, Bool.false_and]
theorem tri_no {a b c : PyData} (h : Wp.between 0 (m - 1) a = false ∨ Wp.between 0 (m - 1) c = false ∨ Wp.isText sg 1 b = false) : isEdge sg m (.tuple [a, b, c]) = false := by
  show (Wp.between 0 (m - 1) a && Wp.between 0 (m - 1) c && Wp.isText sg 1 b) = false
  rcases h with h | h | h <;> rw [h] <;> simp
theorem bad_edges {p q : Int} {x : Str} (hs : sg ∈ menu) (hx : x.length ≤ 1) : ∀ d ∈ badEdges m p x q, isEdge sg m d = false ∧ Wp.sm d = true ∧ Wp.noL d = true := by
  intro d hd
  simp only [badEdges, List.mem_cons, List.not_mem_nil, or_false] at hd
  have hxs := sm_s hx
  rcases hd with rfl | rfl | rfl | rfl | rfl | rfl | rfl | rfl | rfl | rfl | rfl
  · exact ⟨tri_no (.inl (btw_no (by omega))), sm_tri hx, rfl⟩
  · exact ⟨tri_no (.inr (.inl (btw_no (by omega)))), sm_tri hx, rfl⟩
  · refine ⟨tri_no (.inr (.inr ?_)), sm_tri (by decide), rfl⟩
    show (decide (((1 : Nat) : Int) ≤ 1) && ([113].all fun c => decide (c ∈ sg.cps.toList))) = false
    have := no_q sg hs
    rw [show ([113].all fun c => decide (c ∈ sg.cps.toList)) = false from by rw [List.all_cons, decide_eq_false this]; rfl]
    simp
  · refine ⟨tri_no (.inr (.inr ?_)), ?_, rfl⟩
    · rfl
    · rfl
  · refine ⟨rfl, ?_, rfl⟩
    show (Wp.sm (.int p) && (Wp.sm (.str x) && true)) = true
    rw [hxs]; rfl
  · refine ⟨tri_no (.inl rfl), ?_, rfl⟩
    show (Wp.sm (.bool true) && (Wp.sm (.str x) && (Wp.sm (.int q) && true))) = true
    rw [hxs]; rfl
  · exact ⟨tri_no (.inr (.inr rfl)), rfl, rfl⟩
  · exact ⟨tri_no (.inr (.inl (btw_no (by omega)))), sm_tri hx, rfl⟩
  · exact ⟨rfl, rfl, rfl⟩
  · refine ⟨rfl, ?_, rfl⟩
    show (Wp.sm (.int p) && (Wp.sm (.str x) && (Wp.sm (.int q) && (Wp.sm (.int 0) && true)))) = true
    rw [hxs]; rfl
  · exact ⟨rfl, rfl, rfl⟩
theorem bad_ends : ∀ d ∈ badEnds m, (∀ b : Int, -1 ≤ b → Wp.between (b + 1) (m - 1) d = false) ∧ Wp.sm d = true ∧ Wp.noL d = true := by
  intro d hd
  simp only [badEnds, List.mem_cons, List.not_mem_nil, or_false] at hd
  rcases hd with rfl | rfl | rfl | rfl | rfl | rfl
  · exact ⟨fun b hb => btw_no (by omega), rfl, rfl⟩
  · exact ⟨fun b hb => btw_no (by omega), rfl, rfl⟩
  · exact ⟨fun b hb => rfl, rfl, rfl⟩
  · exact ⟨fun b hb => rfl, rfl, rfl⟩
  · exact ⟨fun b hb => rfl, rfl, rfl⟩
  · exact ⟨fun b hb => btw_no (by omega), rfl, rfl⟩
theorem odd_no : ∀ d ∈ oddM, Wp.between 1 40 d = false ∧ Wp.sm d = true ∧ Wp.noL d = true := by
  intro d hd
  simp only [oddM, List.mem_cons, List.not_mem_nil, or_false] at hd
  rcases hd with rfl | rfl | rfl | rfl | rfl | rfl <;> exact ⟨rfl, rfl, rfl⟩
theorem sm_ints (ns : List Int) : Wp.sm (.tuple (ns.map .int)) = true := Wp.sm_tup fun d hd => by
  obtain ⟨n, _, rfl⟩ := List.mem_map.mp hd
  rfl
theorem noL_ints (ns : List Int) : Wp.noL (.tuple (ns.map .int)) = true := Wp.noL_tup fun d hd => by
  obtain ⟨n, _, rfl⟩ := List.mem_map.mp hd
  rfl
theorem auto_odd {o E N : PyData} (h : Wp.between 1 40 o = false ∨ (Wp.row E).isSome = false ∨ (Wp.row N).isSome = false) : autoOf sg (.tuple [o, E, N]) = .error (-1) := by
  show (if Wp.between 1 40 o = true ∧ (Wp.row E).isSome = true ∧ (Wp.row N).isSome = true ∧ ((Wp.row E).getD []).length ≤ 400 then _ else Except.error (-1)) = Except.error (-1)
  refine if_neg fun z => ?_
  rcases h with h | h | h
  · rw [h] at z; exact Bool.noConfusion z.1
  · rw [h] at z; exact Bool.noConfusion z.2.1
  · rw [h] at z; exact Bool.noConfusion z.2.2.1
theorem bad_autos {o : PyData} {es : List PyData} {ns : List Int} (ho : o ∈ oddM) (he : ∀ e ∈ es, okE sg m e) : ∀ d ∈ badAutos o m es ns, autoOf sg d = .error (-1) ∧ Wp.sm d = true ∧ Wp.noL d = true := by
  intro d hd
  obtain ⟨o1, o2, o3⟩ := odd_no o ho
  have he1 : Wp.sm (.tuple es) = true := Wp.sm_tup fun e h => sm_okE (he e h)
  have he2 : Wp.noL (.tuple es) = true := Wp.noL_tup fun e h => noL_okE (he e h)
  have hn1 := sm_ints ns
  have hn2 := noL_ints ns
  have s2 : ∀ {a b : PyData}, Wp.sm a = true → Wp.sm b = true → Wp.sm (.tuple [a, b]) = true := fun h1 h2 => Wp.sm_tup fun d hd => by
    simp only [List.mem_cons, List.not_mem_nil, or_false] at hd
    rcases hd with rfl | rfl <;> assumption
  have s3 : ∀ {a b c : PyData}, Wp.sm a = true → Wp.sm b = true → Wp.sm c = true → Wp.sm (.tuple [a, b, c]) = true := fun h1 h2 h3 => Wp.sm_tup fun d hd => by
    simp only [List.mem_cons, List.not_mem_nil, or_false] at hd
    rcases hd with rfl | rfl | rfl <;> assumption
  have n2 : ∀ {a b : PyData}, Wp.noL a = true → Wp.noL b = true → Wp.noL (.tuple [a, b]) = true := fun h1 h2 => Wp.noL_tup fun d hd => by
    simp only [List.mem_cons, List.not_mem_nil, or_false] at hd
    rcases hd with rfl | rfl <;> assumption
  have n3 : ∀ {a b c : PyData}, Wp.noL a = true → Wp.noL b = true → Wp.noL c = true → Wp.noL (.tuple [a, b, c]) = true := fun h1 h2 h3 => Wp.noL_tup fun d hd => by
    simp only [List.mem_cons, List.not_mem_nil, or_false] at hd
    rcases hd with rfl | rfl | rfl <;> assumption
  simp only [badAutos, List.mem_cons, List.not_mem_nil, or_false] at hd
  rcases hd with rfl | rfl | rfl | rfl | rfl | rfl | rfl | rfl
  · exact ⟨auto_odd (.inl o1), s3 o2 he1 hn1, n3 o3 he2 hn2⟩
  · exact ⟨rfl, s2 rfl he1, n2 rfl he2⟩
  · exact ⟨auto_odd (.inr (.inl rfl)), s3 rfl rfl hn1, n3 rfl rfl hn2⟩
  · exact ⟨auto_odd (.inr (.inr rfl)), s3 rfl he1 rfl, n3 rfl he2 rfl⟩
  · exact ⟨auto_odd (.inr (.inr rfl)), s3 rfl he1 rfl, n3 rfl he2 rfl⟩
  · exact ⟨rfl, rfl, rfl⟩
  · refine ⟨rfl, Wp.sm_tup fun d hd => ?_, Wp.noL_tup fun d hd => ?_⟩ <;>
    · simp only [List.mem_cons, List.not_mem_nil, or_false] at hd
      rcases hd with rfl | rfl | rfl | rfl
      · rfl
      · assumption
      · assumption
      · rfl
  · exact ⟨rfl, rfl, rfl⟩
/-- what a spoilt automaton with edges E and ends N is told of, by its edges -/
theorem auto_edge {E : List PyData} {N : List PyData} {k : Nat} (h1 : 1 ≤ m) (h2 : m ≤ 40) (hl : E.length ≤ 400) (hE : edgeBad sg m none E 0 = some k) : autoOf sg (.tuple [.int m, .tuple E, .tuple N]) = .error (k : Int) := by
  rw [auto_eq (sg := sg) (E := .tuple E) (N := .tuple N) h1 h2 rfl rfl hl rfl, hE]
theorem auto_end {E : List PyData} {N : List PyData} {k : Nat} (h1 : 1 ≤ m) (h2 : m ≤ 40) (hl : E.length ≤ 400) (hE : edgeBad sg m none E 0 = none) (hN : endBad m (-1) N 0 = some k) : autoOf sg (.tuple [.int m, .tuple E, .tuple N]) = .error ((E.length : Int) + (k : Int)) := by
  rw [auto_eq (sg := sg) (E := .tuple E) (N := .tuple N) h1 h2 rfl rfl hl rfl, hE, hN]
end K01
set_option Elab.async false
set_option linter.all false
set_option maxRecDepth 100000
set_option maxHeartbeats 8000000
namespace K01
open PySem PySem.Spec PyProof.Rows L2
open Wp (tri Keep wo_lt wo_le wo_gt wo_ge wo_eq wo_ne wo_in wo_nin wo_add wo_mul op_shlB ws_any wc_int wc_isi u65)
abbrev s__law_spoilt : Stmt := topS 28
abbrev N__law_spoilt : List Str := ["_law_source_here", "_law_signs_here", "_law_automaton", "_law_many", "_law_edges", "_law_ends", "_law_kind", "_law_odd", "_law_menu", "_law_at", "_law_start", "_law_sign", "_law_target"]
theorem sc__law_spoilt : FnScope N__law_spoilt ["_law_source_here", "_law_signs_here", "_law_automaton"] (defScope s__law_spoilt) := ⟨rfl, rfl, rfl, by decide +kernel, rfl, by decide +kernel, by decide +kernel⟩
local macro_rules | `(tactic| walk_at "W") => `(tactic| first
  | (with_reducible first
    | refine Wp.seq ?_ | refine Wp.asg ?_ | refine Wp.ret ?_ | refine Wp.retN ?_ | refine Wp.drop ?_ | refine Wp.nxt ?_ | refine Wp.ifs ?_ | refine Wp.gname ?_
    | refine Wp.op ?_ | refine Wp.un ?_ | refine Wp.tst ?_ | refine Wp.tb' ?_ | refine Wp.tnot ?_ | refine Wp.tand ?_ | refine Wp.tor ?_ | refine Wp.tandV ?_ | refine Wp.torV ?_ | refine Wp.tnotV ?_ | refine Wp.tif ?_ | refine Wp.tchain ?_
    | refine Wp.cb ?_ | refine Wp.call ?_ | refine Wp.cons ?_ | refine Wp.nil ?_ | refine Wp.gsub ?_ | refine Wp.cst ?_ | refine Wp.i0 ?_ | refine Wp.int1 ?_ | refine Wp.eb ?_ | refine Wp.ei ?_
    | refine Wp.gnil ?_ | refine Wp.gcons ?_ | refine Wp.mko ?_ | refine Wp.bm ?_ | refine Wp.ienum ?_ | refine Wp.tru ?_ | refine Wp.u1 ?_ | refine Wp.for_ ?_ | refine Wp.lc ?_ | refine Wp.istr ?_ | refine Wp.ilist ?_ | refine Wp.itup ?_ | refine Wp.irng1 ?_ | refine Wp.yes ?_ | refine Wp.es ?_ | refine Wp.er ?_ | refine Wp.sl ?_ | refine Wp.nopart ?_ | refine Wp.part ?_ | refine Wp.lst ?_ | refine Wp.tup ?_
    | refine Wp.ltI ?_ | refine Wp.leI ?_ | refine Wp.leS ?_ | refine Wp.inSg ?_ | refine Wp.gtI ?_ | refine Wp.geI ?_ | refine Wp.eqI ?_ | refine Wp.neI ?_ | refine Wp.addI ?_ | refine Wp.ltS ?_ | refine Wp.eqS ?_ | refine Wp.neS ?_)
  | ((with_reducible refine' Wp.var ?hv ?_); (case hv => exact rfl))
  | ((with_reducible refine' Wp.ixl ?hs ?he ?_); (case hs => first | exact SqL.of upd_same | exact SqL.of (by assumption) | assumption); (case he => exact rfl))
  | ((with_reducible refine' Wp.setl ?hs ?he ?_); (case hs => first | exact upd_same | assumption); (case he => exact rfl))
  | ((with_reducible refine' Wp.modP ?hs ?_); (case hs => first | decide | omega))
  | ((with_reducible refine' Wp.divN ?hs ?ht ?_); (case hs => first | decide | omega); (case ht => first | decide | omega))
  | ((with_reducible refine' Wp.mulM ?hs ?ht ?_); (case hs => decide); (case ht => decide))
  | ((with_reducible refine' Wp.mulL ?hs ?_); (case hs => omega))
  | ((with_reducible refine' Wp.mulR ?hs ?_); (case hs => omega))
  | ((with_reducible refine' Wp.powS ?hs ?_); (case hs => decide))
  | ((with_reducible refine' Wp.shr ?hs ?_); (case hs => decide))
  | ((with_reducible refine' Wp.szl ?hs ?_); (case hs => first | decide | (simp; done)))
  | ((with_reducible refine' Wp.lenL ?hs ?_); (case hs => first | exact SqL.of upd_same | exact SqL.of (by assumption) | assumption))
  | ((with_reducible refine' Wp.lenT ?hs ?_); (case hs => first | exact SqT.of upd_same | exact SqT.of (by assumption) | assumption))
  | ((with_reducible refine' Wp.iteC ?hs ?_); (case hs => exact rfl)) | ((with_reducible refine' Wp.iteD ?hs ?_); (case hs => exact Bool.false_ne_true))
  | ((with_reducible refine' Wp.wp ?hs ?_); (case hs => rfl))
  | (with_reducible first | refine Wp.abs ?_ | refine Wp.max2 ?_ | refine Wp.min2 ?_)
  | ((with_reducible refine' Wp.sll ?hs ?_); (case hs => first | exact SqL.of upd_same | exact SqL.of (by assumption) | assumption)))
local macro_rules | `(tactic| walk_at "KQ") => `(tactic| first
  | exact Wp.kq "int" rfl (by decide +kernel) | exact Wp.kq "bool" rfl (by decide +kernel) | exact Wp.kq "str" rfl (by decide +kernel) | exact Wp.kq "list" rfl (by decide +kernel)
  | exact Wp.kq "tuple" rfl (by decide +kernel) | exact Wp.kq "NoneType" rfl (by decide +kernel) | exact Wp.kq "dict" rfl (by decide +kernel))

section
variable {P : Program} {w : World} {K : PySem.W.Frag} {mg : Str → Option Value} {base : Heap}
def spSpoilt (K : PySem.W.Frag) : Sp := fun vs H Q _ => ∃ a sg r m es ns, vs = [.ref a, .str sg, .ref r] ∧ Src H a ∧ sg ∈ menu ∧ Dp K H (.ref r) (autoD m es ns) ∧ Good sg m es ns ∧ m ≤ 5 ∧ es.length ≤ 11 ∧
  ∀ H' t v d i, Keep a H H' → Src H' a → SqT K H' t [v, .int i] → Dp K H' v d → Wp.sm d = true → autoOf sg d = .error i → Q (.ref t) H'
/-- what stands behind some steps -/
structure Sq (K : PySem.W.Frag) (a e n : Addr) (us : List V) (es : List PyData) (ns : List Int) (H0 H : Hp) : Prop where
  k : Keep a H0 H
  s : Src H a
  e : SqT K H e us
  d : DpAll K H us es
  n : SqT K H n (ns.map V.int)
theorem Sq.go {a e n : Addr} {us : List V} {es : List PyData} {ns : List Int} {H0 H H' : Hp} (x : Sq K a e n us es ns H0 H) (he : Wp.noLA es = true) (k : Keep a H H') (s : Src H' a) : Sq K a e n us es ns H0 H' := by
  obtain ⟨d, z, c, ha⟩ := x.s
  exact ⟨x.k.trans k, s, Wp.sqt_keep ha k x.e, Wp.dps_keep ha k _ _ he x.d, Wp.sqt_keep ha k x.n⟩
theorem Sq.sm {a e n : Addr} {us : List V} {es : List PyData} {ns : List Int} {H0 H H' : Hp} (x : Sq K a e n us es ns H0 H) (s : Same H H') : Sq K a e n us es ns H0 H' := by
  obtain ⟨d, z, c, ha⟩ := x.s
  exact ⟨x.k.trans (Wp.Keep.of s), ⟨d, z, c, s _ _ ha⟩, Wp.sameT s x.e, Wp.dps_same s _ _ x.d, Wp.sameT s x.n⟩
theorem Sq.ne {a e n p : Addr} {us : List V} {es : List PyData} {ns : List Int} {H0 H : Hp} (x : Sq K a e n us es ns H0 H) (h : H p = none) : p ≠ a := fun z => by
  obtain ⟨d, z2, c, e⟩ := x.s
  rw [z, e] at h; cases h
theorem ok_spoilt (B : Wp.Blt mg) {f fP : Addr} {fd fdP : FuncData} (F : Fun K "_law_spoilt" "_law_spoilt" s__law_spoilt f fd) (D__law_pick : Wp.Dh K mg "_law_pick" fP fdP ["_law_source_here", "_law_many"])
    (G__law_pick : FnOk P w K mg base CX0 1 fP fdP ["_law_source_here", "_law_many"] spPick) : FnOk P w K mg base CX0 2 f fd ["_law_source_here", "_law_signs_here", "_law_automaton"] (spSpoilt K) := by
  refine F.ok sc__law_spoilt (fun vs H Q E h => ?_) (fun cdv A outer s H vs Q E hr h => ?_)
  · obtain ⟨a, sg, r, m, es, ns, rfl, _⟩ := h
    rfl
  · obtain ⟨a, sg, r, m, es, ns, rfl, hs, hmn, hd, g, hm5, hel, q⟩ := h
    obtain ⟨r', e, n, us, hr', h1, h2, h3, h4⟩ := auto_parts hd
    cases hr'
    have hne : Wp.noLA es = true := Wp.noLA_of fun e h => noL_okE (g.ee e h)
    have hul := Wp.dps_len h3
    have hm1 := g.m1
    refine ⟨_, (pss_cons (ps_asg (pv 2) (Wp.wg_tup (K := K) (n := 3) rfl (pgs_cons (pg_name (i := 3) sc__law_spoilt.nd rfl (by first | exact .inl rfl | exact .inr rfl)) (pgs_cons (pg_name (i := 4) sc__law_spoilt.nd rfl (by first | exact .inl rfl | exact .inr rfl)) (pgs_cons (pg_name (i := 5) sc__law_spoilt.nd rfl (by first | exact .inl rfl | exact .inr rfl)) pgs_nil)))))
  (pss_cons (ps_set (i := 6) sc__law_spoilt.nd rfl (by first | exact .inl rfl | exact .inr rfl) (pe_call G__law_pick (hr.mono (by decide)) (by rfl) D__law_pick.g D__law_pick.k D__law_pick.b .nil pass0 (pa_cons (pv 0) (pa_cons pe_int pa_nil))))
  (pss_cons (ps_if (PW.pt (pw_or (pt_cmpR wo_lt (pv 6) pe_int (nomark _)) (pw_or (PW.pt (pw_and (pt_cmpR wo_lt (pv 6) pe_int (nomark _)) (pw_and1 (pt_not (Wp.wt_truth (K := K) (pv 4) (by intro _; rfl)))))) (pw_or1 (PW.pt (pw_and (pt_cmpR wo_ge (pv 6) pe_int (nomark _)) (pw_and1 (pt_not (Wp.wt_truth (K := K) (pv 5) (by intro _; rfl)))))))))) (pss_cons (ps_set (i := 7) sc__law_spoilt.nd rfl (by first | exact .inl rfl | exact .inr rfl) (pe_lst (pa_cons pe_int (pa_cons pe_int (pa_cons pe_bl (pa_cons pe_str (pa_cons pe_non (pa_cons (pe_un un_neg pe_int) pa_nil))))))))
  (pss_cons (ps_set (i := 8) sc__law_spoilt.nd rfl (by first | exact .inl rfl | exact .inr rfl) (pe_lst (pa_cons (pe_tup (pa_cons (pe_ix (Wp.wx_seq (K := K)) (pv 7) (pe_call G__law_pick (hr.mono (by decide)) (by rfl) D__law_pick.g D__law_pick.k D__law_pick.b .nil pass0 (pa_cons (pv 0) (pa_cons pe_int pa_nil))) (fun _ _ => rfl)) (pa_cons (pv 4) (pa_cons (pv 5) pa_nil)))) (pa_cons (pe_tup (pa_cons (pv 3) (pa_cons (pv 4) pa_nil))) (pa_cons (pe_tup (pa_cons (pv 3) (pa_cons pe_str (pa_cons (pv 5) pa_nil)))) (pa_cons (pe_tup (pa_cons (pv 3) (pa_cons (pv 4) (pa_cons pe_int pa_nil)))) (pa_cons (pe_tup (pa_cons (pv 3) (pa_cons (pv 4) (pa_cons pe_non pa_nil)))) (pa_cons pe_str (pa_cons (pe_tup (pa_cons (pv 3) (pa_cons (pv 4) (pa_cons (pv 5) (pa_cons (pe_tup pa_nil) pa_nil))))) (pa_cons pe_non pa_nil))))))))))
  (pss_one (ps_ret (pe_tup (pa_cons (pe_ix (Wp.wx_seq (K := K)) (pv 8) (pe_call G__law_pick (hr.mono (by decide)) (by rfl) D__law_pick.g D__law_pick.k D__law_pick.b .nil pass0 (pa_cons (pv 0) (pa_cons pe_int pa_nil))) (fun _ _ => rfl)) (pa_cons (pe_un un_neg pe_int) pa_nil))))))) pss_nil)
  (pss_cons (ps_if (pt_cmpR wo_lt (pv 6) pe_int (nomark _)) (pss_cons (ps_set (i := 9) sc__law_spoilt.nd rfl (by first | exact .inl rfl | exact .inr rfl) (pe_call G__law_pick (hr.mono (by decide)) (by rfl) D__law_pick.g D__law_pick.k D__law_pick.b .nil pass0 (pa_cons (pv 0) (pa_cons (pe_callB (Wp.wc_len (K := K)) (by rfl) B.len (by decide +kernel) (pa_cons (pv 4) pa_nil)) pa_nil))))
  (pss_cons (ps_asg (pe_ix (Wp.wx_seq (K := K)) (pv 4) (pv 9) (fun _ _ => rfl)) (Wp.wg_tup (K := K) (n := 3) rfl (pgs_cons (pg_name (i := 10) sc__law_spoilt.nd rfl (by first | exact .inl rfl | exact .inr rfl)) (pgs_cons (pg_name (i := 11) sc__law_spoilt.nd rfl (by first | exact .inl rfl | exact .inr rfl)) (pgs_cons (pg_name (i := 12) sc__law_spoilt.nd rfl (by first | exact .inl rfl | exact .inr rfl)) pgs_nil)))))
  (pss_cons (ps_if (pt_cmpR (wo_eq (K := K) hr.units) (pv 6) pe_int (nomark _)) (pss_one (ps_ret (pe_tup (pa_cons (pe_tup (pa_cons (pv 3) (pa_cons (pe_op (wo_add (K := K)) (pe_op (wo_add (K := K)) (pe_slice (ws_any (K := K)) (pv 4) po_none (po_some (pe_op (wo_add (K := K)) (pv 9) pe_int))) (pe_tup (pa_cons (pe_ix (Wp.wx_seq (K := K)) (pv 4) (pv 9) (fun _ _ => rfl)) pa_nil))) (pe_slice (ws_any (K := K)) (pv 4) (po_some (pe_op (wo_add (K := K)) (pv 9) pe_int)) po_none)) (pa_cons (pv 5) pa_nil)))) (pa_cons (pe_op (wo_add (K := K)) (pv 9) pe_int) pa_nil))))) pss_nil)
  (pss_cons (ps_if (PW.pt (pw_and (pt_cmpR (wo_eq (K := K) hr.units) (pv 6) pe_int (nomark _)) (pw_and1 (pt_cmpR wo_lt (pe_op (wo_add (K := K)) (pv 9) pe_int) (pe_callB (Wp.wc_len (K := K)) (by rfl) B.len (by decide +kernel) (pa_cons (pv 4) pa_nil)) (nomark _))))) (pss_one (ps_ret (pe_tup (pa_cons (pe_tup (pa_cons (pv 3) (pa_cons (pe_op (wo_add (K := K)) (pe_op (wo_add (K := K)) (pe_slice (ws_any (K := K)) (pv 4) po_none (po_some (pv 9))) (pe_tup (pa_cons (pe_ix (Wp.wx_seq (K := K)) (pv 4) (pe_op (wo_add (K := K)) (pv 9) pe_int) (fun _ _ => rfl)) (pa_cons (pe_ix (Wp.wx_seq (K := K)) (pv 4) (pv 9) (fun _ _ => rfl)) pa_nil)))) (pe_slice (ws_any (K := K)) (pv 4) (po_some (pe_op (wo_add (K := K)) (pv 9) pe_int)) po_none)) (pa_cons (pv 5) pa_nil)))) (pa_cons (pe_op (wo_add (K := K)) (pv 9) pe_int) pa_nil))))) pss_nil)
  (pss_cons (ps_set (i := 8) sc__law_spoilt.nd rfl (by first | exact .inl rfl | exact .inr rfl) (pe_lst (pa_cons (pe_tup (pa_cons (pv 3) (pa_cons (pv 11) (pa_cons (pv 12) pa_nil)))) (pa_cons (pe_tup (pa_cons (pv 10) (pa_cons (pv 11) (pa_cons (pv 3) pa_nil)))) (pa_cons (pe_tup (pa_cons (pv 10) (pa_cons pe_str (pa_cons (pv 12) pa_nil)))) (pa_cons (pe_tup (pa_cons (pv 10) (pa_cons pe_str (pa_cons (pv 12) pa_nil)))) (pa_cons (pe_tup (pa_cons (pv 10) (pa_cons (pv 11) pa_nil))) (pa_cons (pe_tup (pa_cons pe_bl (pa_cons (pv 11) (pa_cons (pv 12) pa_nil)))) (pa_cons (pe_tup (pa_cons (pv 10) (pa_cons pe_int (pa_cons (pv 12) pa_nil)))) (pa_cons (pe_tup (pa_cons (pv 10) (pa_cons (pv 11) (pa_cons (pe_un un_neg pe_int) pa_nil)))) (pa_cons pe_str (pa_cons (pe_tup (pa_cons (pv 10) (pa_cons (pv 11) (pa_cons (pv 12) (pa_cons pe_int pa_nil))))) (pa_cons pe_non pa_nil)))))))))))))
  (pss_one (ps_ret (pe_tup (pa_cons (pe_tup (pa_cons (pv 3) (pa_cons (pe_op (wo_add (K := K)) (pe_op (wo_add (K := K)) (pe_slice (ws_any (K := K)) (pv 4) po_none (po_some (pv 9))) (pe_tup (pa_cons (pe_ix (Wp.wx_seq (K := K)) (pv 8) (pe_call G__law_pick (hr.mono (by decide)) (by rfl) D__law_pick.g D__law_pick.k D__law_pick.b .nil pass0 (pa_cons (pv 0) (pa_cons pe_int pa_nil))) (fun _ _ => rfl)) pa_nil))) (pe_slice (ws_any (K := K)) (pv 4) (po_some (pe_op (wo_add (K := K)) (pv 9) pe_int)) po_none)) (pa_cons (pv 5) pa_nil)))) (pa_cons (pv 9) pa_nil)))))))))) pss_nil)
  (pss_cons (ps_set (i := 9) sc__law_spoilt.nd rfl (by first | exact .inl rfl | exact .inr rfl) (pe_call G__law_pick (hr.mono (by decide)) (by rfl) D__law_pick.g D__law_pick.k D__law_pick.b .nil pass0 (pa_cons (pv 0) (pa_cons (pe_callB (Wp.wc_len (K := K)) (by rfl) B.len (by decide +kernel) (pa_cons (pv 5) pa_nil)) pa_nil))))
  (pss_cons (ps_if (pt_cmpR (wo_eq (K := K) hr.units) (pv 6) pe_int (nomark _)) (pss_one (ps_ret (pe_tup (pa_cons (pe_tup (pa_cons (pv 3) (pa_cons (pv 4) (pa_cons (pe_op (wo_add (K := K)) (pe_op (wo_add (K := K)) (pe_slice (ws_any (K := K)) (pv 5) po_none (po_some (pe_op (wo_add (K := K)) (pv 9) pe_int))) (pe_tup (pa_cons (pe_ix (Wp.wx_seq (K := K)) (pv 5) (pv 9) (fun _ _ => rfl)) pa_nil))) (pe_slice (ws_any (K := K)) (pv 5) (po_some (pe_op (wo_add (K := K)) (pv 9) pe_int)) po_none)) pa_nil)))) (pa_cons (pe_op (wo_add (K := K)) (pe_op (wo_add (K := K)) (pe_callB (Wp.wc_len (K := K)) (by rfl) B.len (by decide +kernel) (pa_cons (pv 4) pa_nil)) (pv 9)) pe_int) pa_nil))))) pss_nil)
  (pss_cons (ps_if (PW.pt (pw_and (pt_cmpR (wo_eq (K := K) hr.units) (pv 6) pe_int (nomark _)) (pw_and1 (pt_cmpR wo_lt (pe_op (wo_add (K := K)) (pv 9) pe_int) (pe_callB (Wp.wc_len (K := K)) (by rfl) B.len (by decide +kernel) (pa_cons (pv 5) pa_nil)) (nomark _))))) (pss_one (ps_ret (pe_tup (pa_cons (pe_tup (pa_cons (pv 3) (pa_cons (pv 4) (pa_cons (pe_op (wo_add (K := K)) (pe_op (wo_add (K := K)) (pe_slice (ws_any (K := K)) (pv 5) po_none (po_some (pv 9))) (pe_tup (pa_cons (pe_ix (Wp.wx_seq (K := K)) (pv 5) (pe_op (wo_add (K := K)) (pv 9) pe_int) (fun _ _ => rfl)) (pa_cons (pe_ix (Wp.wx_seq (K := K)) (pv 5) (pv 9) (fun _ _ => rfl)) pa_nil)))) (pe_slice (ws_any (K := K)) (pv 5) (po_some (pe_op (wo_add (K := K)) (pv 9) pe_int)) po_none)) pa_nil)))) (pa_cons (pe_op (wo_add (K := K)) (pe_op (wo_add (K := K)) (pe_callB (Wp.wc_len (K := K)) (by rfl) B.len (by decide +kernel) (pa_cons (pv 4) pa_nil)) (pv 9)) pe_int) pa_nil))))) pss_nil)
  (pss_cons (ps_set (i := 8) sc__law_spoilt.nd rfl (by first | exact .inl rfl | exact .inr rfl) (pe_lst (pa_cons (pv 3) (pa_cons (pe_un un_neg pe_int) (pa_cons pe_str (pa_cons pe_non (pa_cons pe_bl (pa_cons (pe_op (wo_add (K := K)) (pv 3) pe_int) pa_nil))))))))
  (pss_one (ps_ret (pe_tup (pa_cons (pe_tup (pa_cons (pv 3) (pa_cons (pv 4) (pa_cons (pe_op (wo_add (K := K)) (pe_op (wo_add (K := K)) (pe_slice (ws_any (K := K)) (pv 5) po_none (po_some (pv 9))) (pe_tup (pa_cons (pe_ix (Wp.wx_seq (K := K)) (pv 8) (pe_call G__law_pick (hr.mono (by decide)) (by rfl) D__law_pick.g D__law_pick.k D__law_pick.b .nil pass0 (pa_cons (pv 0) (pa_cons pe_int pa_nil))) (fun _ _ => rfl)) pa_nil))) (pe_slice (ws_any (K := K)) (pv 5) (po_some (pe_op (wo_add (K := K)) (pv 9) pe_int)) po_none)) pa_nil)))) (pa_cons (pe_op (wo_add (K := K)) (pe_callB (Wp.wc_len (K := K)) (by rfl) B.len (by decide +kernel) (pa_cons (pv 4) pa_nil)) (pv 9)) pa_nil))))))))))))), ?_⟩
    refine Wp.st (σ' := [some (.ref a), some (.str sg), some (.ref r), none, none, none, none, none, none, none, none, none, none]) rfl ?_
    repeat walk_at "W"
    refine Wp.gt h1 rfl ?_
    repeat walk_at "W"
    refine ⟨a, 12, rfl, hs, by decide, by decide, fun kind H1 hk0 hk1 k1 s1 => ?_⟩
    have sq0 : Sq K a e n us es ns H H := ⟨Keep.refl _ _, hs, h2, h3, h4⟩
    have sq := sq0.go hne k1 s1
    iterate 3 walk_at "W"
    refine Wp.cutT (fun b H' => H' = H1 ∧ (b = false → 4 ≤ kind ∧ (kind < 9 → es ≠ []) ∧ (9 ≤ kind → ns ≠ []))) (fun R hR => ?_) ?_
    · repeat walk_at "W"
      refine Wp.itd (fun c1 => ?_) (fun c1 => ?_)
      · exact hR _ _ ⟨rfl, fun z => nomatch z⟩
      repeat walk_at "W"
      refine Wp.itd (fun c2 => ?_) (fun c2 => ?_)
      · repeat walk_at "W"
        refine Wp.truT sq.e ?_
        refine Wp.itnb (fun c3 => ?_) (fun c3 => ?_)
        · exact hR _ _ ⟨rfl, fun z => nomatch z⟩
        · repeat walk_at "W"
          refine Wp.itd (fun c4 => ?_) (fun c4 => ?_)
          · omega
          refine hR _ _ ⟨rfl, fun _ => ⟨by omega, fun _ z => ?_, fun z => by omega⟩⟩
          subst z; cases us with
          | nil => cases c3
          | cons _ _ => cases hul
      · repeat walk_at "W"
        refine Wp.itd (fun c4 => ?_) (fun c4 => ?_)
        · repeat walk_at "W"
          refine Wp.truT sq.n ?_
          refine hR _ _ ⟨rfl, fun z => ⟨by omega, fun z => by omega, fun _ z2 => ?_⟩⟩
          subst z2; cases z
        · omega
    rintro b H2 ⟨rfl, hb⟩
    cases b with
    | true =>
      repeat walk_at "W"
      intro M nM
      have u0 : Same H2 _ := Wp.same_upd (o := .lst [.int 0, .int 41, .bl true, .str "3", .non, .int (-1)]) nM
      have hMa := sq.ne nM
      have sq2 := sq.sm u0
      repeat walk_at "W"
      refine ⟨a, 6, rfl, sq2.s, by decide, by decide, fun r2 H3 h20 h21 k2 s2 => ?_⟩
      have sq3 := sq2.go hne k2 s2
      have hM3 := k2 _ _ hMa upd_same
      obtain ⟨o, od, hat, hom, hod⟩ := Wp.dps_at (K := K) (H := H3) (vs := [.int 0, .int 41, .bl true, .str "3", .non, .int (-1)]) (ds := oddM) (.cons (.int 0) (.cons (.int 41) (.cons (.bl true) (.cons (.str _) (.cons .non (.cons (.int _) .nil)))))) h20 h21
      refine Wp.ixl (SqL.of hM3) hat ?_
      repeat walk_at "W"
      intro T1 n1
      have u1 : Same H3 _ := Wp.same_upd (o := .tup [o, .ref e, .ref n]) n1
      repeat walk_at "W"
      intro T2 n2
      have u2 : Same _ _ := Wp.same_upd (o := .tup [.int m, .ref e]) n2
      repeat walk_at "W"
      intro T3 n3
      have u3 : Same _ _ := Wp.same_upd (o := .tup [.int m, .str "ab", .ref n]) n3
      repeat walk_at "W"
      intro T4 n4
      have u4 : Same _ _ := Wp.same_upd (o := .tup [.int m, .ref e, .int 0]) n4
      repeat walk_at "W"
      intro T5 n5
      have u5 : Same _ _ := Wp.same_upd (o := .tup [.int m, .ref e, .non]) n5
      repeat walk_at "W"
      intro T6 n6
      have u6 : Same _ _ := Wp.same_upd (o := .tup []) n6
      repeat walk_at "W"
      intro T7 n7
      have u7 : Same _ _ := Wp.same_upd (o := .tup [.int m, .ref e, .ref n, .ref T6]) n7
      repeat walk_at "W"
      intro M2 nM2
      have u8 : Same _ _ := Wp.same_upd (o := .lst [.ref T1, .ref T2, .ref T3, .ref T4, .ref T5, .str "automaton", .ref T7, .non]) nM2
      have sq8 := (((((((sq3.sm u1).sm u2).sm u3).sm u4).sm u5).sm u6).sm u7)
      have hM2a := sq8.ne nM2
      have sq9 := sq8.sm u8
      have v7 := u8
      have v6 := u7.trans v7
      have v5 := u6.trans v6
      have v4 := u5.trans v5
      have v3 := u4.trans v4
      have v2 := u3.trans v3
      have v1 := u2.trans v2
      have de := Dp.tup sq9.e sq9.d
      have dn := Dp.tup sq9.n (dps_ints ns)
      have hall : DpAll K _ [.ref T1, .ref T2, .ref T3, .ref T4, .ref T5, .str "automaton", .ref T7, .non] (badAutos od m es ns) :=
        .cons (.tup (Wp.sameT v1 (SqT.of upd_same)) (.cons (Wp.dp_same (u1.trans v1) _ _ hod) (.cons de (.cons dn .nil))))
        (.cons (.tup (Wp.sameT v2 (SqT.of upd_same)) (.cons (.int m) (.cons de .nil)))
        (.cons (.tup (Wp.sameT v3 (SqT.of upd_same)) (.cons (.int m) (.cons (.str _) (.cons dn .nil))))
        (.cons (.tup (Wp.sameT v4 (SqT.of upd_same)) (.cons (.int m) (.cons de (.cons (.int 0) .nil))))
        (.cons (.tup (Wp.sameT v5 (SqT.of upd_same)) (.cons (.int m) (.cons de (.cons .non .nil))))
        (.cons (.str _)
        (.cons (.tup (Wp.sameT v7 (SqT.of upd_same)) (.cons (.int m) (.cons de (.cons dn (.cons (.tup (Wp.sameT v6 (SqT.of upd_same)) .nil) .nil)))))
        (.cons .non .nil)))))))
      have hbad := bad_autos (sg := sg) (m := m) (ns := ns) hom g.ee
      repeat walk_at "W"
      refine ⟨a, 8, rfl, sq9.s, by decide, by decide, fun r3 HA h30 h31 k3 s3 => ?_⟩
      obtain ⟨z1, z2, z3, ha9⟩ := sq9.s
      have hallA := Wp.dps_keep ha9 k3 _ _ (Wp.noLA_of fun d hd => (hbad d hd).2.2) hall
      have sqA := sq9.go hne k3 s3
      obtain ⟨v, d, hat2, hdm, hvd⟩ := Wp.dps_at hallA h30 h31
      refine Wp.ixl (SqL.of (k3 _ _ hM2a upd_same)) hat2 ?_
      repeat walk_at "W"
      intro t nt
      have ut : Same _ _ := Wp.same_upd (o := .tup [v, .int (-1)]) nt
      have sqB := sqA.sm ut
      exact q _ t v d (-1) sqB.k sqB.s (SqT.of upd_same) (Wp.dp_same ut _ _ hvd) (hbad d hdm).2.1 (hbad d hdm).1
    | false =>
      obtain ⟨c4, c9, c9'⟩ := hb rfl
      repeat walk_at "W"
      refine Wp.itd (fun k9 => ?_) (fun k9 => ?_)
      · have hes := c9 k9
        have hlen : 0 < es.length := List.length_pos_iff.mpr hes
        have hse := sq.e
        repeat walk_at "W"
        refine ⟨a, us.length, rfl, sq.s, by omega, by omega, fun r H3 hr0 hr1 k3 s3 => ?_⟩
        have sq := sq.go hne k3 s3
        obtain ⟨k, rfl⟩ := Int.eq_ofNat_of_zero_le hr0
        have hk : k < es.length := by omega
        have hku : k < us.length := by omega
        have hvk := List.getElem?_eq_getElem hku
        obtain ⟨d, hdk, hvd⟩ := Wp.dps_get sq.d hvk
        have hok := g.ee d (List.mem_of_getElem? hdk)
        obtain ⟨p, x, y, rfl⟩ := hok.2
        obtain ⟨p0, p1, y0, y1, hx1, _⟩ := okE_tri hok
        repeat walk_at "W"
        refine Wp.ixt sq.e (atI_nat hvk) ?_
        generalize hvv : us[k] = v at hvk hvd ⊢
        have hvd' := hvd
        cases hvd with
        | @tup t ys _ hts ha =>
        cases ha with
        | cons a1 ha =>
        cases ha with
        | cons a2 ha =>
        cases ha with
        | cons a3 ha =>
        cases ha; cases a1; cases a2; cases a3
        refine Wp.gt hts rfl ?_
        have hokd : ∀ {E : List PyData}, (∀ e ∈ E, okE sg m e) → Wp.sm (.tuple [.int m, .tuple E, .tuple (ns.map .int)]) = true := fun h => by
          show (Wp.sm (.int m) && (Wp.sm (.tuple _) && (Wp.sm (.tuple (ns.map .int)) && true))) = true
          rw [Wp.sm_tup fun e he => sm_okE (h e he), sm_ints]; rfl
        have m40 : m ≤ 40 := by omega
        repeat walk_at "W"
        refine Wp.itd (fun k7 => ?_) (fun k7 => ?_)
        · repeat walk_at "W"
          refine Wp.slT sq.e (Wp.cut_hi (k + 1) rfl) fun q1 H4 u4 f1 => ?_
          have sq4 := sq.sm u4
          repeat walk_at "W"
          refine Wp.ixt sq4.e (atI_nat hvk) ?_
          repeat walk_at "W"
          intro q2 n5
          have u5 : Same _ _ := Wp.same_upd (o := .tup [.ref t]) n5
          have sq5 := sq4.sm u5
          repeat walk_at "W"
          refine Wp.catT (Wp.sameT u5 f1) (SqT.of upd_same) (by rw [List.length_take]; simp; omega) fun q3 H6 u6 f3 => ?_
          have sq6 := sq5.sm u6
          repeat walk_at "W"
          refine Wp.slT sq6.e (Wp.cut_lo (k + 1) rfl) fun q4 H7 u7 f4 => ?_
          have sq7 := sq6.sm u7
          repeat walk_at "W"
          refine Wp.catT (Wp.sameT u7 f3) f4 (by rw [List.length_append, List.length_take, List.length_drop]; simp; omega) fun q5 H8 u8 f5 => ?_
          have sq8 := sq7.sm u8
          repeat walk_at "W"
          intro T n9
          have u9 : Same _ _ := Wp.same_upd (o := .tup [.int m, .ref q5, .ref n]) n9
          have sq9 := sq8.sm u9
          repeat walk_at "W"
          intro t2 n10
          have u10 : Same _ _ := Wp.same_upd (o := .tup [.ref T, .int ((k : Int) + 1)]) n10
          have sq10 := sq9.sm u10
          have he := edge_twice (sg := sg) (m := m) hdk g.ee g.ep (es.drop (k + 1))
          refine q _ t2 (.ref T) (.tuple [.int m, .tuple (es.take (k + 1) ++ tri p x y :: es.drop (k + 1)), .tuple (ns.map .int)]) _ sq10.k sq10.s (SqT.of upd_same) ?_ ?_ (auto_edge hm1 m40 ?_ he)
          · refine .tup (Wp.sameT u10 (SqT.of upd_same)) (.cons (.int m) (.cons (.tup (Wp.sameT (u9.trans u10) f5) ?_) (.cons (.tup sq10.n (dps_ints ns)) .nil)))
            rw [List.append_assoc]
            exact Wp.dps_append (Wp.dps_take _ sq10.d) (.cons (Wp.dp_same (u4.trans (u5.trans (u6.trans (u7.trans (u8.trans (u9.trans u10)))))) _ _ hvd') (Wp.dps_drop _ sq10.d))
          · refine hokd fun e he => ?_
            rcases List.mem_append.mp he with z | z
            · exact g.ee e (List.mem_of_mem_take z)
            rcases List.mem_cons.mp z with rfl | z
            · exact hok
            · exact g.ee e (List.mem_of_mem_drop z)
          · rw [List.length_append, List.length_cons, List.length_take, List.length_drop]; omega
        iterate 3 walk_at "W"
        refine Wp.cutT (fun b H' => H' = H3 ∧ (b = true → k + 1 < es.length)) (fun R hR => ?_) ?_
        · have hse := sq.e
          repeat walk_at "W"
          refine Wp.itd (fun k8 => ?_) (fun k8 => ?_)
          · repeat walk_at "W"
            refine hR _ _ ⟨rfl, fun z => ?_⟩
            have := of_decide_eq_true z
            omega
          · exact hR _ _ ⟨rfl, fun z => nomatch z⟩
        rintro b H3' ⟨rfl, hb8⟩
        cases b with
        | true =>
          have hk1 := hb8 rfl
          have hvk1 := List.getElem?_eq_getElem (show k + 1 < us.length by omega)
          obtain ⟨d1, hdk1, hvd1⟩ := Wp.dps_get sq.d hvk1
          generalize us[k + 1] = v1 at hvk1 hvd1
          repeat walk_at "W"
          refine Wp.slT sq.e (Wp.cut_hi k rfl) fun q1 H4 u4 f1 => ?_
          have sq4 := sq.sm u4
          repeat walk_at "W"
          refine Wp.ixt sq4.e (atI_nat hvk1) ?_
          repeat walk_at "W"
          refine Wp.ixt sq4.e (atI_nat hvk) ?_
          repeat walk_at "W"
          intro q2 n5
          have u5 : Same _ _ := Wp.same_upd (o := .tup [v1, .ref t]) n5
          have sq5 := sq4.sm u5
          repeat walk_at "W"
          refine Wp.catT (Wp.sameT u5 f1) (SqT.of upd_same) (by rw [List.length_take]; simp; omega) fun q3 H6 u6 f3 => ?_
          have sq6 := sq5.sm u6
          repeat walk_at "W"
          refine Wp.slT sq6.e (Wp.cut_lo (k + 2) rfl) fun q4 H7 u7 f4 => ?_
          have sq7 := sq6.sm u7
          repeat walk_at "W"
          refine Wp.catT (Wp.sameT u7 f3) f4 (by rw [List.length_append, List.length_take, List.length_drop]; simp; omega) fun q5 H8 u8 f5 => ?_
          have sq8 := sq7.sm u8
          repeat walk_at "W"
          intro T n9
          have u9 : Same _ _ := Wp.same_upd (o := .tup [.int m, .ref q5, .ref n]) n9
          have sq9 := sq8.sm u9
          repeat walk_at "W"
          intro t2 n10
          have u10 : Same _ _ := Wp.same_upd (o := .tup [.ref T, .int ((k : Int) + 1)]) n10
          have sq10 := sq9.sm u10
          have he := edge_swap (sg := sg) (m := m) hdk hdk1 g.ee g.ep (es.drop (k + 2))
          have uu := (u4.trans (u5.trans (u6.trans (u7.trans (u8.trans (u9.trans u10))))))
          refine q _ t2 (.ref T) (.tuple [.int m, .tuple (es.take k ++ d1 :: tri p x y :: es.drop (k + 2)), .tuple (ns.map .int)]) _ sq10.k sq10.s (SqT.of upd_same) ?_ ?_ (auto_edge hm1 m40 ?_ he)
          · refine .tup (Wp.sameT u10 (SqT.of upd_same)) (.cons (.int m) (.cons (.tup (Wp.sameT (u9.trans u10) f5) ?_) (.cons (.tup sq10.n (dps_ints ns)) .nil)))
            rw [List.append_assoc]
            exact Wp.dps_append (Wp.dps_take _ sq10.d) (.cons (Wp.dp_same uu _ _ hvd1) (.cons (Wp.dp_same uu _ _ hvd') (Wp.dps_drop _ sq10.d)))
          · refine hokd fun e he => ?_
            rcases List.mem_append.mp he with z | z
            · exact g.ee e (List.mem_of_mem_take z)
            rcases List.mem_cons.mp z with rfl | z
            · exact g.ee _ (List.mem_of_getElem? hdk1)
            rcases List.mem_cons.mp z with rfl | z
            · exact hok
            · exact g.ee e (List.mem_of_mem_drop z)
          · rw [List.length_append, List.length_cons, List.length_cons, List.length_take, List.length_drop]; omega
        | false =>
          repeat walk_at "W"
          intro T1 n1
          have u1 : Same _ _ := Wp.same_upd (o := .tup [.int m, .str x, .int y]) n1
          repeat walk_at "W"
          intro T2 n2
          have u2 : Same _ _ := Wp.same_upd (o := .tup [.int p, .str x, .int m]) n2
          repeat walk_at "W"
          intro T3 n3
          have u3 : Same _ _ := Wp.same_upd (o := .tup [.int p, .str "q", .int y]) n3
          repeat walk_at "W"
          intro T4 n4
          have u4 : Same _ _ := Wp.same_upd (o := .tup [.int p, .str "aa", .int y]) n4
          repeat walk_at "W"
          intro T5 n5
          have u5 : Same _ _ := Wp.same_upd (o := .tup [.int p, .str x]) n5
          repeat walk_at "W"
          intro T6 n6
          have u6 : Same _ _ := Wp.same_upd (o := .tup [.bl true, .str x, .int y]) n6
          repeat walk_at "W"
          intro T7 n7
          have u7 : Same _ _ := Wp.same_upd (o := .tup [.int p, .int 7, .int y]) n7
          repeat walk_at "W"
          intro T8 n8
          have u8 : Same _ _ := Wp.same_upd (o := .tup [.int p, .str x, .int (-1)]) n8
          repeat walk_at "W"
          intro T9 n9
          have u9 : Same _ _ := Wp.same_upd (o := .tup [.int p, .str x, .int y, .int 0]) n9
          repeat walk_at "W"
          intro M nM
          have u10 : Same _ _ := Wp.same_upd (o := .lst [.ref T1, .ref T2, .ref T3, .ref T4, .ref T5, .ref T6, .ref T7, .ref T8, .str "a", .ref T9, .non]) nM
          have sq9 := ((((((((sq.sm u1).sm u2).sm u3).sm u4).sm u5).sm u6).sm u7).sm u8).sm u9
          have hMa := sq9.ne nM
          have sq10 := sq9.sm u10
          have v9 := u10
          have v8 := u9.trans v9
          have v7 := u8.trans v8
          have v6 := u7.trans v7
          have v5 := u6.trans v6
          have v4 := u5.trans v5
          have v3 := u4.trans v4
          have v2 := u3.trans v3
          have v1 := u2.trans v2
          have hall : DpAll K _ [.ref T1, .ref T2, .ref T3, .ref T4, .ref T5, .ref T6, .ref T7, .ref T8, .str "a", .ref T9, .non] (badEdges m p x y) :=
            .cons (.tup (Wp.sameT v1 (SqT.of upd_same)) (.cons (.int _) (.cons (.str _) (.cons (.int _) .nil))))
            (.cons (.tup (Wp.sameT v2 (SqT.of upd_same)) (.cons (.int _) (.cons (.str _) (.cons (.int _) .nil))))
            (.cons (.tup (Wp.sameT v3 (SqT.of upd_same)) (.cons (.int _) (.cons (.str _) (.cons (.int _) .nil))))
            (.cons (.tup (Wp.sameT v4 (SqT.of upd_same)) (.cons (.int _) (.cons (.str _) (.cons (.int _) .nil))))
            (.cons (.tup (Wp.sameT v5 (SqT.of upd_same)) (.cons (.int _) (.cons (.str _) .nil)))
            (.cons (.tup (Wp.sameT v6 (SqT.of upd_same)) (.cons (.bl _) (.cons (.str _) (.cons (.int _) .nil))))
            (.cons (.tup (Wp.sameT v7 (SqT.of upd_same)) (.cons (.int _) (.cons (.int _) (.cons (.int _) .nil))))
            (.cons (.tup (Wp.sameT v8 (SqT.of upd_same)) (.cons (.int _) (.cons (.str _) (.cons (.int _) .nil))))
            (.cons (.str _)
            (.cons (.tup (Wp.sameT v9 (SqT.of upd_same)) (.cons (.int _) (.cons (.str _) (.cons (.int _) (.cons (.int _) .nil)))))
            (.cons .non .nil))))))))))
          have hbad := bad_edges (m := m) (p := p) (q := y) hmn hx1
          repeat walk_at "W"
          refine Wp.slT sq10.e (Wp.cut_hi k rfl) fun q1 H4 w4 f1 => ?_
          have sq11 := sq10.sm w4
          have hM4 := w4 _ _ upd_same
          have hall := Wp.dps_same w4 _ _ hall
          repeat walk_at "W"
          refine ⟨a, 11, rfl, sq11.s, by decide, by decide, fun r3 HA h30 h31 k3 s3 => ?_⟩
          obtain ⟨z1, z2, z3, ha9⟩ := sq11.s
          have hallA := Wp.dps_keep ha9 k3 _ _ (Wp.noLA_of fun d hd => (hbad d hd).2.2) hall
          have sq4 := sq11.go hne k3 s3
          have f1 := Wp.sqt_keep ha9 k3 f1
          obtain ⟨v, d, hat2, hdm, hvd2⟩ := Wp.dps_at hallA h30 h31
          refine Wp.ixl (SqL.of (k3 _ _ hMa hM4)) hat2 ?_
          repeat walk_at "W"
          intro q2 n5
          have u5 : Same _ _ := Wp.same_upd (o := .tup [v]) n5
          have sq5 := sq4.sm u5
          repeat walk_at "W"
          refine Wp.catT (Wp.sameT u5 f1) (SqT.of upd_same) (by rw [List.length_take]; simp; omega) fun q3 H6 u6 f3 => ?_
          have sq6 := sq5.sm u6
          repeat walk_at "W"
          refine Wp.slT sq6.e (Wp.cut_lo (k + 1) rfl) fun q4 H7 u7 f4 => ?_
          have sq7 := sq6.sm u7
          repeat walk_at "W"
          refine Wp.catT (Wp.sameT u7 f3) f4 (by rw [List.length_append, List.length_take, List.length_drop]; simp; omega) fun q5 H8 u8 f5 => ?_
          have sq8 := sq7.sm u8
          repeat walk_at "W"
          intro T n9
          have u9 : Same _ _ := Wp.same_upd (o := .tup [.int m, .ref q5, .ref n]) n9
          have sq9 := sq8.sm u9
          repeat walk_at "W"
          intro t2 n10
          have u10 : Same _ _ := Wp.same_upd (o := .tup [.ref T, .int (k : Int)]) n10
          have sq10 := sq9.sm u10
          have he := edge_no (sg := sg) (m := m) hk g.ee g.ep (hbad d hdm).1 (es.drop (k + 1))
          have uu := ((u5.trans (u6.trans (u7.trans (u8.trans (u9.trans u10))))))
          refine q _ t2 (.ref T) (.tuple [.int m, .tuple (es.take k ++ d :: es.drop (k + 1)), .tuple (ns.map .int)]) _ sq10.k sq10.s (SqT.of upd_same) ?_ ?_ (auto_edge hm1 m40 ?_ he)
          · refine .tup (Wp.sameT u10 (SqT.of upd_same)) (.cons (.int m) (.cons (.tup (Wp.sameT (u9.trans u10) f5) ?_) (.cons (.tup sq10.n (dps_ints ns)) .nil)))
            rw [List.append_assoc]
            exact Wp.dps_append (Wp.dps_take _ sq10.d) (.cons (Wp.dp_same uu _ _ hvd2) (Wp.dps_drop _ sq10.d))
          · refine Wp.sm_tup fun e he => ?_
            simp only [List.mem_cons, List.not_mem_nil, or_false] at he
            rcases he with rfl | rfl | rfl
            · rfl
            · refine Wp.sm_tup fun e he => ?_
              rcases List.mem_append.mp he with z | z
              · exact sm_okE (g.ee e (List.mem_of_mem_take z))
              rcases List.mem_cons.mp z with rfl | z
              · exact (hbad _ hdm).2.1
              · exact sm_okE (g.ee e (List.mem_of_mem_drop z))
            · exact sm_ints ns
          · rw [List.length_append, List.length_cons, List.length_take, List.length_drop]; omega
      · have hns := c9' (by omega)
        have hlen : 0 < ns.length := List.length_pos_iff.mpr hns
        have hnl := g.nl
        have hse := sq.n
        have hml : (ns.map V.int).length = ns.length := List.length_map _
        repeat walk_at "W"
        refine ⟨a, (ns.map V.int).length, rfl, sq.s, by omega, by omega, fun r H3 hr0 hr1 k3 s3 => ?_⟩
        have sq := sq.go hne k3 s3
        obtain ⟨k, rfl⟩ := Int.eq_ofNat_of_zero_le hr0
        have hk : k < ns.length := by omega
        have hdk := List.getElem?_eq_getElem hk
        generalize ns[k] = y at hdk
        have hvk : (ns.map V.int)[k]? = some (.int y) := by rw [List.getElem?_map, hdk]; rfl
        have m40 : m ≤ 40 := by omega
        have hee := edge_good (sg := sg) (m := m) g.ee g.ep
        have hokd : ∀ {N : List PyData}, (∀ e ∈ N, Wp.sm e = true) → Wp.sm (.tuple [.int m, .tuple es, .tuple N]) = true := fun h => by
          show (Wp.sm (.int m) && (Wp.sm (.tuple es) && (Wp.sm (.tuple _) && true))) = true
          rw [Wp.sm_tup fun e he => sm_okE (g.ee e he), Wp.sm_tup h]; rfl
        have hsi : ∀ {N : List Int}, ∀ e ∈ N.map PyData.int, Wp.sm e = true := fun {N} e he => by
          obtain ⟨n, _, rfl⟩ := List.mem_map.mp he
          rfl
        have hse := sq.n
        repeat walk_at "W"
        refine Wp.itd (fun k7 => ?_) (fun k7 => ?_)
        · repeat walk_at "W"
          refine Wp.slT sq.n (Wp.cut_hi (k + 1) rfl) fun q1 H4 u4 f1 => ?_
          have sq4 := sq.sm u4
          repeat walk_at "W"
          refine Wp.ixt sq4.n (atI_nat hvk) ?_
          repeat walk_at "W"
          intro q2 n5
          have u5 : Same _ _ := Wp.same_upd (o := .tup [.int y]) n5
          have sq5 := sq4.sm u5
          repeat walk_at "W"
          refine Wp.catT (Wp.sameT u5 f1) (SqT.of upd_same) (by rw [List.length_take]; simp; omega) fun q3 H6 u6 f3 => ?_
          have sq6 := sq5.sm u6
          repeat walk_at "W"
          refine Wp.slT sq6.n (Wp.cut_lo (k + 1) rfl) fun q4 H7 u7 f4 => ?_
          have sq7 := sq6.sm u7
          repeat walk_at "W"
          refine Wp.catT (Wp.sameT u7 f3) f4 (by rw [List.length_append, List.length_take, List.length_drop]; simp; omega) fun q5 H8 u8 f5 => ?_
          have sq8 := sq7.sm u8
          repeat walk_at "W"
          intro T n9
          have u9 : Same _ _ := Wp.same_upd (o := .tup [.int m, .ref e, .ref q5]) n9
          have sq9 := sq8.sm u9
          have hse9 := sq9.e
          repeat walk_at "W"
          intro t2 n10
          have u10 : Same _ _ := Wp.same_upd (o := .tup [.ref T, .int ((us.length : Int) + (k : Int) + 1)]) n10
          have sq10 := sq9.sm u10
          have he := end_twice (m := m) hdk g.nn g.np ((ns.drop (k + 1)).map .int)
          have hau := auto_end (sg := sg) hm1 m40 (by omega) hee he
          refine q _ t2 (.ref T) (.tuple [.int m, .tuple es, .tuple ((ns.take (k + 1)).map .int ++ .int y :: (ns.drop (k + 1)).map .int)]) ((us.length : Int) + (k : Int) + 1) sq10.k sq10.s (SqT.of upd_same) ?_ (hokd ?_) ?_
          · refine .tup (Wp.sameT u10 (SqT.of upd_same)) (.cons (.int m) (.cons (.tup sq10.e sq10.d) (.cons (.tup (Wp.sameT (u9.trans u10) f5) ?_) .nil)))
            rw [List.append_assoc, List.map_take, List.map_drop]
            exact Wp.dps_append (Wp.dps_take _ (dps_ints ns)) (.cons (.int y) (Wp.dps_drop _ (dps_ints ns)))
          · intro e he
            rcases List.mem_append.mp he with z | z
            · exact hsi e z
            rcases List.mem_cons.mp z with rfl | z
            · rfl
            · exact hsi e z
          · rw [hau, hul, Int.add_assoc]; rfl
        iterate 3 walk_at "W"
        refine Wp.cutT (fun b H' => H' = H3 ∧ (b = true → k + 1 < ns.length)) (fun R hR => ?_) ?_
        · repeat walk_at "W"
          refine Wp.itd (fun k8 => ?_) (fun k8 => ?_)
          · repeat walk_at "W"
            refine hR _ _ ⟨rfl, fun z => ?_⟩
            have := of_decide_eq_true z
            omega
          · exact hR _ _ ⟨rfl, fun z => nomatch z⟩
        rintro b H3' ⟨rfl, hb8⟩
        cases b with
        | true =>
          have hk1 := hb8 rfl
          have hdk1 := List.getElem?_eq_getElem hk1
          generalize ns[k + 1] = y1 at hdk1
          have hvk1 : (ns.map V.int)[k + 1]? = some (.int y1) := by rw [List.getElem?_map, hdk1]; rfl
          repeat walk_at "W"
          refine Wp.slT sq.n (Wp.cut_hi k rfl) fun q1 H4 u4 f1 => ?_
          have sq4 := sq.sm u4
          repeat walk_at "W"
          refine Wp.ixt sq4.n (atI_nat hvk1) ?_
          repeat walk_at "W"
          refine Wp.ixt sq4.n (atI_nat hvk) ?_
          repeat walk_at "W"
          intro q2 n5
          have u5 : Same _ _ := Wp.same_upd (o := .tup [.int y1, .int y]) n5
          have sq5 := sq4.sm u5
          repeat walk_at "W"
          refine Wp.catT (Wp.sameT u5 f1) (SqT.of upd_same) (by rw [List.length_take]; simp; omega) fun q3 H6 u6 f3 => ?_
          have sq6 := sq5.sm u6
          repeat walk_at "W"
          refine Wp.slT sq6.n (Wp.cut_lo (k + 2) rfl) fun q4 H7 u7 f4 => ?_
          have sq7 := sq6.sm u7
          repeat walk_at "W"
          refine Wp.catT (Wp.sameT u7 f3) f4 (by rw [List.length_append, List.length_take, List.length_drop]; simp; omega) fun q5 H8 u8 f5 => ?_
          have sq8 := sq7.sm u8
          repeat walk_at "W"
          intro T n9
          have u9 : Same _ _ := Wp.same_upd (o := .tup [.int m, .ref e, .ref q5]) n9
          have sq9 := sq8.sm u9
          have hse9 := sq9.e
          repeat walk_at "W"
          intro t2 n10
          have u10 : Same _ _ := Wp.same_upd (o := .tup [.ref T, .int ((us.length : Int) + (k : Int) + 1)]) n10
          have sq10 := sq9.sm u10
          have he := end_swap (m := m) hdk hdk1 g.nn g.np ((ns.drop (k + 2)).map .int)
          have hau := auto_end (sg := sg) hm1 m40 (by omega) hee he
          refine q _ t2 (.ref T) (.tuple [.int m, .tuple es, .tuple ((ns.take k).map .int ++ .int y1 :: .int y :: (ns.drop (k + 2)).map .int)]) ((us.length : Int) + (k : Int) + 1) sq10.k sq10.s (SqT.of upd_same) ?_ (hokd ?_) ?_
          · refine .tup (Wp.sameT u10 (SqT.of upd_same)) (.cons (.int m) (.cons (.tup sq10.e sq10.d) (.cons (.tup (Wp.sameT (u9.trans u10) f5) ?_) .nil)))
            rw [List.append_assoc, List.map_take, List.map_drop]
            exact Wp.dps_append (Wp.dps_take _ (dps_ints ns)) (.cons (.int y1) (.cons (.int y) (Wp.dps_drop _ (dps_ints ns))))
          · intro e he
            rcases List.mem_append.mp he with z | z
            · exact hsi e z
            rcases List.mem_cons.mp z with rfl | z
            · rfl
            rcases List.mem_cons.mp z with rfl | z
            · rfl
            · exact hsi e z
          · rw [hau, hul, Int.add_assoc]; rfl
        | false =>
          repeat walk_at "W"
          intro M nM
          have u10 : Same _ _ := Wp.same_upd (o := .lst [.int m, .int (-1), .str "0", .non, .bl false, .int (m + 7)]) nM
          have hMa := sq.ne nM
          have sq10 := sq.sm u10
          have hall : ∀ {G : Hp}, DpAll K G [.int m, .int (-1), .str "0", .non, .bl false, .int (m + 7)] (badEnds m) :=
            .cons (.int _) (.cons (.int _) (.cons (.str _) (.cons .non (.cons (.bl _) (.cons (.int _) .nil)))))
          have hbad := bad_ends (m := m)
          repeat walk_at "W"
          refine Wp.slT sq10.n (Wp.cut_hi k rfl) fun q1 H4 w4 f1 => ?_
          have sq11 := sq10.sm w4
          have hM4 := w4 _ _ upd_same
          repeat walk_at "W"
          refine ⟨a, 6, rfl, sq11.s, by decide, by decide, fun r3 HA h30 h31 k3 s3 => ?_⟩
          obtain ⟨z1, z2, z3, ha9⟩ := sq11.s
          have sq4 := sq11.go hne k3 s3
          have f1 := Wp.sqt_keep ha9 k3 f1
          obtain ⟨v, d, hat2, hdm, hvd2⟩ := Wp.dps_at (hall (G := HA)) h30 h31
          refine Wp.ixl (SqL.of (k3 _ _ hMa hM4)) hat2 ?_
          repeat walk_at "W"
          intro q2 n5
          have u5 : Same _ _ := Wp.same_upd (o := .tup [v]) n5
          have sq5 := sq4.sm u5
          repeat walk_at "W"
          refine Wp.catT (Wp.sameT u5 f1) (SqT.of upd_same) (by rw [List.length_take]; simp; omega) fun q3 H6 u6 f3 => ?_
          have sq6 := sq5.sm u6
          repeat walk_at "W"
          refine Wp.slT sq6.n (Wp.cut_lo (k + 1) rfl) fun q4 H7 u7 f4 => ?_
          have sq7 := sq6.sm u7
          repeat walk_at "W"
          refine Wp.catT (Wp.sameT u7 f3) f4 (by rw [List.length_append, List.length_take, List.length_drop]; simp; omega) fun q5 H8 u8 f5 => ?_
          have sq8 := sq7.sm u8
          repeat walk_at "W"
          intro T n9
          have u9 : Same _ _ := Wp.same_upd (o := .tup [.int m, .ref e, .ref q5]) n9
          have sq9 := sq8.sm u9
          have hse9 := sq9.e
          repeat walk_at "W"
          intro t2 n10
          have u10 : Same _ _ := Wp.same_upd (o := .tup [.ref T, .int ((us.length : Int) + (k : Int))]) n10
          have sq10 := sq9.sm u10
          have he := end_no (m := m) hk g.nn g.np (hbad d hdm).1 ((ns.drop (k + 1)).map .int)
          have hau := auto_end (sg := sg) hm1 m40 (by omega) hee he
          have uu := ((u5.trans (u6.trans (u7.trans (u8.trans (u9.trans u10))))))
          refine q _ t2 (.ref T) (.tuple [.int m, .tuple es, .tuple ((ns.take k).map .int ++ d :: (ns.drop (k + 1)).map .int)]) ((us.length : Int) + (k : Int)) sq10.k sq10.s (SqT.of upd_same) ?_ (hokd ?_) ?_
          · refine .tup (Wp.sameT u10 (SqT.of upd_same)) (.cons (.int m) (.cons (.tup sq10.e sq10.d) (.cons (.tup (Wp.sameT (u9.trans u10) f5) ?_) .nil)))
            rw [List.append_assoc, List.map_take, List.map_drop]
            exact Wp.dps_append (Wp.dps_take _ (dps_ints ns)) (.cons (Wp.dp_same uu _ _ hvd2) (Wp.dps_drop _ (dps_ints ns)))
          · intro e he
            rcases List.mem_append.mp he with z | z
            · exact hsi e z
            rcases List.mem_cons.mp z with rfl | z
            · exact (hbad _ hdm).2.1
            · exact hsi e z
          · rw [hau, hul]
end
end K01
set_option Elab.async false
set_option linter.all false
set_option maxRecDepth 100000
namespace Wp
open PySem PySem.Spec PyProof.Rows L2
theorem passX0 {X : Cx} : Passes (L2.CX X.prog X.w) X (fun _ _ _ => False) := fun _ _ _ _ _ _ _ h => by
  obtain ⟨_, _, _, _, _, _, _, _, _, _, _, _, z⟩ := h
  exact z.elim
theorem depthAll_le {n : Nat} : ∀ {ds : List PyData}, (∀ d ∈ ds, d.depth ≤ n) → PyData.depthAll ds ≤ n
  | [], _ => by simp [PyData.depthAll]
  | d :: ds, h => by
    rw [PyData.depthAll]
    exact Nat.max_le.mpr ⟨h d List.mem_cons_self, depthAll_le fun e he => h e (List.mem_cons_of_mem _ he)⟩
theorem canLayAll_of : ∀ {ds : List PyData}, (∀ d ∈ ds, d.canLay0 = true) → PyData.canLayAll0 ds = true
  | [], _ => by simp [PyData.canLayAll0]
  | d :: ds, h => by
    rw [PyData.canLayAll0, h d List.mem_cons_self, canLayAll_of fun e he => h e (List.mem_cons_of_mem _ he)]; rfl
theorem showableAll_of : ∀ {ds : List PyData}, (∀ d ∈ ds, d.showable = true) → PyData.showableAll ds = true
  | [], _ => by simp [PyData.showableAll]
  | d :: ds, h => by
    rw [PyData.showableAll, h d List.mem_cons_self, showableAll_of fun e he => h e (List.mem_cons_of_mem _ he)]; rfl
theorem weightAll_le {c : Nat} : ∀ {ds : List PyData}, (∀ d ∈ ds, d.weight + 1 ≤ c) → PyData.weightAll ds ≤ ds.length * c
  | [], _ => by simp [PyData.weightAll]
  | d :: ds, h => by
    have h1 := h d List.mem_cons_self
    have h2 := weightAll_le fun e he => h e (List.mem_cons_of_mem _ he)
    rw [PyData.weightAll, List.length_cons, Nat.succ_mul]
    omega
/-- small data, ready to be shown -/
structure Shw (n c : Nat) (d : PyData) : Prop where
  l : d.canLay0 = true
  s : d.showable = true
  i : d.intsShort 13 = true
  dp : d.depth ≤ n
  w : d.weight ≤ c
theorem Shw.int {i : Int} (h0 : 0 ≤ i) (h1 : i ≤ 40) : Shw 0 8 (.int i) := by
  obtain ⟨k, rfl⟩ := Int.eq_ofNat_of_zero_le h0
  have h : ∀ k : Fin 41, PyData.showable (.int ((k.val : Nat) : Int)) = true ∧ PyData.intsShort 13 (.int ((k.val : Nat) : Int)) = true ∧ PyData.weight (.int ((k.val : Nat) : Int)) ≤ 8 := by decide +kernel
  obtain ⟨a, b, c⟩ := h ⟨k, by omega⟩
  exact ⟨by simp [PyData.canLay0], a, b, by simp [PyData.depth], c⟩
theorem Shw.tup {n c : Nat} {ds : List PyData} (h : ∀ d ∈ ds, Shw n c d) : Shw (n + 1) (ds.length * (c + 1)) (.tuple ds) := by
  refine ⟨?_, ?_, ?_, ?_, ?_⟩
  · rw [PyData.canLay0]; exact canLayAll_of fun d hd => (h d hd).l
  · rw [PyData.showable]; exact showableAll_of fun d hd => (h d hd).s
  · rw [PyData.intsShort]; exact intsShortAll_of fun d hd => (h d hd).i
  · have := depthAll_le fun d hd => (h d hd).dp
    rw [PyData.depth]; omega
  · rw [PyData.weight]; exact weightAll_le fun d hd => by have := (h d hd).w; omega
theorem Shw.mono {n c m e : Nat} {d : PyData} (h : Shw n c d) (h1 : n ≤ m) (h2 : c ≤ e) : Shw m e d := ⟨h.l, h.s, h.i, Nat.le_trans h.dp h1, Nat.le_trans h.w h2⟩
theorem Shw.all {n c : Nat} {d : PyData} (h : Shw n c d) (h1 : n ≤ 60) (h2 : c ≤ 1048576) : d.showable = true ∧ d.hasDict = false ∧ d.depth ≤ 60 ∧ d.shown.length ≤ sizeLine := by
  refine ⟨h.s, PyData.hasDict_of_canLay d h.l, Nat.le_trans h.dp h1, ?_⟩
  have hd := h.dp
  have hw := h.w
  have hl : PyData.layable0 d = true := by
    unfold PyData.layable0
    rw [h.l, decide_eq_true (by omega), decide_eq_true (by omega)]; rfl
  have h3 := shown_le13 hl h.i
  have e : sizeLine = 16777216 := by decide
  omega
end Wp
namespace K01
open PySem PySem.Spec PyProof.Rows L2
open Wp (tri Shw)
variable {sg : Str} {m : Int}
theorem good_menu : ∀ sg ∈ menu, goodSigns (.str sg) = true := by decide +kernel
theorem chars_menu : ∀ sg ∈ menu, ∀ c ∈ sg.cps.toList, c < 0x110000 := by decide +kernel
theorem shw_tri {p q : Int} {x : Str} (hs : sg ∈ menu) (hm : m ≤ 40) (h : okE sg m (tri p x q)) : Shw 1 27 (tri p x q) := by
  obtain ⟨h1, h2, h3, h4, h5, h6⟩ := okE_tri h
  have hx : Shw 0 8 (.str x) := by
    refine ⟨?_, by simp [PyData.showable], by simp [PyData.intsShort], by simp [PyData.depth], ?_⟩
    · have h7 : (decide ((x.length : Int) ≤ 1) && x.cps.toList.all fun c => decide (c ∈ sg.cps.toList)) = true := h6
      rw [Bool.and_eq_true] at h7
      rw [PyData.canLay0]
      show (x.cps.all (· < 0x110000)) = true
      rw [← Array.all_toList]
      refine List.all_eq_true.mpr fun c hc => ?_
      have := of_decide_eq_true (List.all_eq_true.mp h7.2 c hc)
      exact decide_eq_true (chars_menu sg hs c this)
    · rw [PyData.weight]
      have : x.cps.size = x.length := rfl
      omega
  have := Shw.tup (n := 0) (c := 8) (ds := [.int p, .str x, .int q]) fun d hd => by
    simp only [List.mem_cons, List.not_mem_nil, or_false] at hd
    rcases hd with rfl | rfl | rfl
    · exact Shw.int h1 (by omega)
    · exact hx
    · exact Shw.int h3 (by omega)
  exact this
theorem shw_auto {es : List PyData} {ns : List Int} (hs : sg ∈ menu) (g : Good sg m es ns) : Shw 3 (3 * 2801) (autoD m es ns) := by
  have h1 := g.m1
  have h2 := g.m2
  have h3 := g.el
  have h4 := g.nl
  refine Shw.tup (n := 2) (c := 2800) (ds := [.int m, .tuple es, .tuple (ns.map .int)]) fun d hd => ?_
  simp only [List.mem_cons, List.not_mem_nil, or_false] at hd
  rcases hd with rfl | rfl | rfl
  · exact (Shw.int (by omega) h2).mono (by omega) (by omega)
  · refine (Shw.tup (n := 1) (c := 27) fun e he => ?_).mono (by omega) (by omega)
    obtain ⟨p, x, q, rfl⟩ := (g.ee e he).2
    exact shw_tri hs h2 (g.ee _ he)
  · refine (Shw.tup (n := 0) (c := 8) fun e he => ?_).mono (by omega) (by rw [List.length_map]; omega)
    obtain ⟨n, hn, rfl⟩ := List.mem_map.mp he
    have := g.nn n hn
    exact Shw.int this.1 (by omega)
theorem sm_auto {es : List PyData} {ns : List Int} (g : Good sg m es ns) : Wp.sm (autoD m es ns) = true := by
  show (Wp.sm (.int m) && (Wp.sm (.tuple es) && (Wp.sm (.tuple (ns.map .int)) && true))) = true
  rw [Wp.sm_tup fun e he => sm_okE (g.ee e he), sm_ints]; rfl
theorem sm_listD {es : List PyData} {ns : List Int} (g : Good sg m es ns) : Wp.sm (listD m es ns) = true := by
  have h1 : Wp.smA (es.map listOf) = true := Wp.smA_of fun d hd => by
    obtain ⟨e, he, rfl⟩ := List.mem_map.mp hd
    obtain ⟨p, x, q, rfl⟩ := (g.ee e he).2
    exact sm_tri (okE_tri (g.ee _ he)).2.2.2.2.1
  have h2 : Wp.smA (ns.map PyData.int) = true := sm_ints ns
  show (Wp.sm (.int m) && (Wp.smA (es.map listOf) && (Wp.smA (ns.map .int) && true))) = true
  rw [h1, h2]; rfl
def oddS : List PyData := [.str "ba", .str "", .str "aab", .str "aB", .int 5, .str "abcdefghi", .none, .str "a b", .tuple [.str "a", .str "b"], .str "a1"]
theorem odd_s : ∀ d ∈ oddS, goodSigns d = false ∧ SeqAt.shaped d = true ∧ PyData.eqv d d = true ∧ Wp.noL d = true ∧ Wp.sm d = true := by decide +kernel
/-! 400 edges over 40 states -/
def bigE (c k : Nat) : PyData := tri ((k : Int) / 40) ⟨#[c]⟩ ((k : Int) % 40)
theorem bigE_ok {c k : Nat} (hc : c ∈ sg.cps.toList) (hk : k < 401) : okE sg 40 (bigE c k) := ⟨edge_of (.inr ⟨c, hc, rfl⟩) (by omega) (by omega) (by omega) (by omega), _, _, _, rfl⟩
theorem bigE_lt {c k l : Nat} (h : k < l) : ltD (bigE c k) (bigE c l) := by
  show PySem.W.dataLt (tri _ _ _) (tri _ _ _) = true
  rw [tri_lt]
  by_cases h1 : (k : Int) / 40 = (l : Int) / 40
  · rw [if_pos h1, if_pos rfl]; exact decide_eq_true (by omega)
  · rw [if_neg h1]; exact decide_eq_true (by omega)
def bigEs (c n : Nat) : List PyData := (List.range n).map (bigE c)
theorem bigEs_ok {c n : Nat} (hc : c ∈ sg.cps.toList) (hn : n ≤ 401) : ∀ e ∈ bigEs c n, okE sg 40 e := fun e he => by
  obtain ⟨k, hk, rfl⟩ := List.mem_map.mp he
  exact bigE_ok hc (by have := List.mem_range.mp hk; omega)
theorem bigEs_len {c n : Nat} : (bigEs c n).length = n := by rw [bigEs, List.length_map, List.length_range]
theorem big_400 {c : Nat} (hc : c ∈ sg.cps.toList) : ∃ r, autoOf sg (.tuple [.int 40, .tuple (bigEs c 400), .tuple [.int 39]]) = .ok r := by
  have h1 := edge_good (sg := sg) (m := 40) (bigEs_ok hc (by omega : 400 ≤ 401)) (List.pairwise_map.mpr (List.pairwise_lt_range.imp fun h => bigE_lt h))
  have h2 := end_good (m := 40) (ns := [39]) (fun n hn => by rw [List.mem_singleton.mp hn]; omega) (List.pairwise_singleton _ _)
  rw [auto_eq (sg := sg) (m := 40) (E := .tuple (bigEs c 400)) (N := .tuple [.int 39]) (by omega) (by omega) rfl rfl (by rw [bigEs_len]; omega) rfl, show edgeBad sg 40 none (bigEs c 400) 0 = none from h1]
  rw [show ([39] : List Int).map PyData.int = [.int 39] from rfl] at h2
  rw [h2]
  exact ⟨_, rfl⟩
theorem big_401 {c : Nat} : autoOf sg (.tuple [.int 40, .tuple (bigEs c 401), .tuple [.int 39]]) = .error (-1) := by
  unfold autoOf
  rw [show Wp.row (.tuple [.int 40, .tuple (bigEs c 401), .tuple [.int 39]]) = some [.int 40, .tuple (bigEs c 401), .tuple [.int 39]] from rfl]
  refine if_neg fun z => ?_
  have := z.2.2.2
  rw [show (Wp.row (.tuple (bigEs c 401))).getD [] = bigEs c 401 from rfl, bigEs_len] at this
  omega
theorem sm_big {c n : Nat} (hc : c ∈ sg.cps.toList) (hn : n ≤ 401) : Wp.sm (.tuple [.int 40, .tuple (bigEs c n), .tuple [.int 39]]) = true := by
  show (Wp.sm (.int 40) && (Wp.sm (.tuple (bigEs c n)) && (Wp.sm (.tuple [.int 39]) && true))) = true
  rw [Wp.sm_tup fun e he => sm_okE (bigEs_ok hc hn e he)]; rfl
end K01
set_option Elab.async false
set_option linter.all false
set_option maxRecDepth 100000
set_option maxHeartbeats 8000000
namespace K01
open PySem PySem.Spec PyProof.Rows L2
open Wp (tri Keep wo_lt wo_le wo_gt wo_ge wo_eq wo_ne wo_in wo_nin wo_add wo_mul op_shlB ws_any wc_int wc_isi u65)
abbrev s_law : Stmt := topS 29
abbrev N_law : List Str := ["_law_script", "_law_source_here", "_law_signs_here", "_law_automaton", "_law_told", "_law_turn", "_law_thing", "_law_place_here", "_law_many", "_law_k", "_law_edges", "_law_menu", "_law_odd", "raised"]
theorem sc_law : FnScope N_law ["_law_script"] (defScope s_law) := ⟨rfl, rfl, rfl, by decide +kernel, rfl, by decide +kernel, by decide +kernel⟩
local macro_rules | `(tactic| walk_at "W") => `(tactic| first
  | (with_reducible first
    | refine Wp.seq ?_ | refine Wp.asg ?_ | refine Wp.ret ?_ | refine Wp.retN ?_ | refine Wp.drop ?_ | refine Wp.nxt ?_ | refine Wp.ifs ?_ | refine Wp.gname ?_
    | refine Wp.op ?_ | refine Wp.un ?_ | refine Wp.tst ?_ | refine Wp.tb' ?_ | refine Wp.tnot ?_ | refine Wp.tand ?_ | refine Wp.tor ?_ | refine Wp.tandV ?_ | refine Wp.torV ?_ | refine Wp.tnotV ?_ | refine Wp.tif ?_ | refine Wp.tchain ?_
    | refine Wp.cb ?_ | refine Wp.call ?_ | refine Wp.cons ?_ | refine Wp.nil ?_ | refine Wp.gsub ?_ | refine Wp.cst ?_ | refine Wp.i0 ?_ | refine Wp.int1 ?_ | refine Wp.eb ?_ | refine Wp.ei ?_
    | refine Wp.gnil ?_ | refine Wp.gcons ?_ | refine Wp.mko ?_ | refine Wp.bm ?_ | refine Wp.ienum ?_ | refine Wp.tru ?_ | refine Wp.u1 ?_ | refine Wp.for_ ?_ | refine Wp.lc ?_ | refine Wp.istr ?_ | refine Wp.ilist ?_ | refine Wp.itup ?_ | refine Wp.irng1 ?_ | refine Wp.yes ?_ | refine Wp.es ?_ | refine Wp.er ?_ | refine Wp.sl ?_ | refine Wp.nopart ?_ | refine Wp.part ?_ | refine Wp.lst ?_ | refine Wp.tup ?_
    | refine Wp.ltI ?_ | refine Wp.leI ?_ | refine Wp.leS ?_ | refine Wp.inSg ?_ | refine Wp.gtI ?_ | refine Wp.geI ?_ | refine Wp.eqI ?_ | refine Wp.neI ?_ | refine Wp.addI ?_ | refine Wp.ltS ?_ | refine Wp.eqS ?_ | refine Wp.neS ?_)
  | ((with_reducible refine' Wp.var ?hv ?_); (case hv => exact rfl))
  | ((with_reducible refine' Wp.ixl ?hs ?he ?_); (case hs => first | exact SqL.of upd_same | exact SqL.of (by assumption) | assumption); (case he => exact rfl))
  | ((with_reducible refine' Wp.setl ?hs ?he ?_); (case hs => first | exact upd_same | assumption); (case he => exact rfl))
  | ((with_reducible refine' Wp.modP ?hs ?_); (case hs => first | decide | omega))
  | ((with_reducible refine' Wp.divN ?hs ?ht ?_); (case hs => first | decide | omega); (case ht => first | decide | omega))
  | ((with_reducible refine' Wp.mulM ?hs ?ht ?_); (case hs => decide); (case ht => decide))
  | ((with_reducible refine' Wp.mulL ?hs ?_); (case hs => omega))
  | ((with_reducible refine' Wp.mulR ?hs ?_); (case hs => omega))
  | ((with_reducible refine' Wp.powS ?hs ?_); (case hs => decide))
  | ((with_reducible refine' Wp.shr ?hs ?_); (case hs => decide))
  | ((with_reducible refine' Wp.szl ?hs ?_); (case hs => first | decide | (simp; done)))
  | ((with_reducible refine' Wp.lenL ?hs ?_); (case hs => first | exact SqL.of upd_same | exact SqL.of (by assumption) | assumption))
  | ((with_reducible refine' Wp.lenT ?hs ?_); (case hs => first | exact SqT.of upd_same | exact SqT.of (by assumption) | assumption))
  | ((with_reducible refine' Wp.iteC ?hs ?_); (case hs => exact rfl)) | ((with_reducible refine' Wp.iteD ?hs ?_); (case hs => exact Bool.false_ne_true))
  | ((with_reducible refine' Wp.wp ?hs ?_); (case hs => rfl))
  | (with_reducible first | refine Wp.abs ?_ | refine Wp.max2 ?_ | refine Wp.min2 ?_)
  | ((with_reducible refine' Wp.sll ?hs ?_); (case hs => first | exact SqL.of upd_same | exact SqL.of (by assumption) | assumption)))
local macro_rules | `(tactic| walk_at "KQ") => `(tactic| first
  | exact Wp.kq "int" rfl (by decide +kernel) | exact Wp.kq "bool" rfl (by decide +kernel) | exact Wp.kq "str" rfl (by decide +kernel) | exact Wp.kq "list" rfl (by decide +kernel)
  | exact Wp.kq "tuple" rfl (by decide +kernel) | exact Wp.kq "NoneType" rfl (by decide +kernel) | exact Wp.kq "dict" rfl (by decide +kernel))

section
variable {P : Program} {w : World} {K : PySem.W.Frag} {mg : Str → Option Value} {base : Heap}
def spLaw (K : PySem.W.Frag) : Sp := fun vs H Q _ => ∃ (a : Addr) (ns : List Int), vs = [.ref a] ∧ SqL K H a (ns.map V.int) ∧ ns.length ≤ 63 ∧ (∀ z ∈ ns, Builtin.Int.intBits z ≤ 1048576) ∧ ∀ H', Q (.bl true) H'
/-- between the steps of the law -/
structure Lw (K : PySem.W.Frag) (a r : Addr) (d : PyData) (H0 H : Hp) : Prop where
  s : Same H0 H
  c : Src H a
  d : Dp K H (.ref r) d
theorem Lw.go {a r : Addr} {d : PyData} {H0 H H' : Hp} (x : Lw K a r d H0 H) (h0 : H0 a = none) (hn : Wp.noL d = true) (k : Keep a H H') (s : Src H' a) : Lw K a r d H0 H' := by
  obtain ⟨z1, z2, z3, ha⟩ := x.c
  exact ⟨fun b o e => k b o (ne_of_none e h0) (x.s b o e), s, Wp.dp_keep ha k _ _ hn x.d⟩
theorem Lw.sm {a r : Addr} {d : PyData} {H0 H H' : Hp} (x : Lw K a r d H0 H) (s : Same H H') : Lw K a r d H0 H' := by
  obtain ⟨z1, z2, z3, ha⟩ := x.c
  exact ⟨x.s.trans s, ⟨z1, z2, z3, s _ _ ha⟩, Wp.dp_same s _ _ x.d⟩
theorem Lw.ne {a r p : Addr} {d : PyData} {H0 H : Hp} (x : Lw K a r d H0 H) (h : H p = none) : p ≠ a := fun z => by
  obtain ⟨d, z2, c, e⟩ := x.c
  rw [z, e] at h; cases h
theorem _root_.Wp.itnn {α : Type} {x : α} {i : Decidable (x = x)} {A B : Prop} (h2 : B) : if (!(@decide (x = x) i)) = true then A else B := Wp.itn (fun h => (h rfl).elim) (fun _ => h2)
theorem top_law (B : Wp.Blt mg) {f fS fG fN fP fC fL fK fH CS CA CI CT : Addr} {fd fdS fdG fdN fdP fdC fdL fdK fdH : FuncData} (F : Fun K "law" "law" s_law f fd)
    (D__law_source : Wp.Dh K mg "_law_source" fS fdS ["_law_script", "_law_place_here"]) (G__law_source : FnOk P w K mg base CX0 1 fS fdS ["_law_script", "_law_place_here"] (spSource K))
    (D__law_signs : Wp.Dh K mg "_law_signs" fG fdG ["_law_source_here"]) (G__law_signs : FnOk P w K mg base CX0 2 fG fdG ["_law_source_here"] spSigns)
    (D__law_nfa : Wp.Dh K mg "_law_nfa" fN fdN ["_law_source_here", "_law_signs_here", "_law_most"]) (G__law_nfa : FnOk P w K mg base CX0 2 fN fdN ["_law_source_here", "_law_signs_here", "_law_most"] (spNfa K))
    (D__law_pick : Wp.Dh K mg "_law_pick" fP fdP ["_law_source_here", "_law_many"]) (G__law_pick : FnOk P w K mg base CX0 1 fP fdP ["_law_source_here", "_law_many"] spPick)
    (D_checked_automaton : Wp.Dh K mg "checked_automaton" fC fdC ["signs", "thing"]) (G_checked_automaton : FnOk P w K mg base (L2.CX P w) 6 fC fdC ["signs", "thing"] (spChecked K CS CA))
    (D__law_listed : Wp.Dh K mg "_law_listed" fL fdL ["_law_automaton"]) (G__law_listed : FnOk P w K mg base CX0 1 fL fdL ["_law_automaton"] (spListed K))
    (D__law_spoilt : Wp.Dh K mg "_law_spoilt" fK fdK ["_law_source_here", "_law_signs_here", "_law_automaton"]) (G__law_spoilt : FnOk P w K mg base CX0 2 fK fdK ["_law_source_here", "_law_signs_here", "_law_automaton"] (spSpoilt K))
    (D__law_place : Wp.Dh K mg "_law_place" fH fdH ["_law_signs_here", "_law_thing"]) (G__law_place : FnOk P w K mg base CX0 7 fH fdH ["_law_signs_here", "_law_thing"] (spPlace K))
    (T : Ca K mg "BadSigns" CS "thing") (k_WrongItem : mg "WrongItem" = some (.ref CI)) (k_WrongThing : mg "WrongThing" = some (.ref CT))
    (i1 : PySem.W.kitOne K (.ref CS) (.ref CT) = some true) (i2 : PySem.W.kitOne K (.ref CS) (.ref CI) = some false) : Wp.FnTop P w K mg base CX0 f fd ["_law_script"] (spLaw K) := by
  refine Wp.top_of F sc_law (k := 11) (fun vs H Q E h => ?_) ⟨rfl, by decide, by decide⟩ (fun cdv s H vs Q E hr h => ?_)
  · obtain ⟨a, ns, rfl, _⟩ := h
    rfl
  · obtain ⟨a0, zs, rfl, hS, hlen, hbits, q⟩ := h
    refine ⟨_, (pss_cons (ps_set (i := 1) sc_law.nd rfl (by first | exact .inl rfl | exact .inr rfl) (pe_call G__law_source (hr.mono (by decide)) (by rfl) D__law_source.g D__law_source.k D__law_source.b .nil pass0 (pa_cons (pv 0) (pa_cons pe_int pa_nil))))
  (pss_cons (ps_set (i := 2) sc_law.nd rfl (by first | exact .inl rfl | exact .inr rfl) (pe_call G__law_signs (hr.mono (by decide)) (by rfl) D__law_signs.g D__law_signs.k D__law_signs.b .nil pass0 (pa_cons (pv 1) pa_nil)))
  (pss_cons (ps_set (i := 3) sc_law.nd rfl (by first | exact .inl rfl | exact .inr rfl) (pe_call G__law_nfa (hr.mono (by decide)) (by rfl) D__law_nfa.g D__law_nfa.k D__law_nfa.b .nil pass0 (pa_cons (pv 1) (pa_cons (pv 2) (pa_cons pe_int pa_nil)))))
  (pss_cons (ps_set (i := 4) sc_law.nd rfl (by first | exact .inl rfl | exact .inr rfl) (pe_call G_checked_automaton (hr.mono (by decide)) (by rfl) D_checked_automaton.g D_checked_automaton.k D_checked_automaton.b .nil Wp.passX0 (pa_cons (pv 2) (pa_cons (pe_ifExp (pt_cmpR (wo_eq (K := K) hr.units) (pe_call G__law_pick (hr.mono (by decide)) (by rfl) D__law_pick.g D__law_pick.k D__law_pick.b .nil pass0 (pa_cons (pv 1) (pa_cons pe_int pa_nil))) pe_int (nomark _)) (pv 3) (pe_call G__law_listed (hr.mono (by decide)) (by rfl) D__law_listed.g D__law_listed.k D__law_listed.b .nil pass0 (pa_cons (pv 3) pa_nil))) pa_nil))))
  (pss_cons (ps_if (pt_cmpR (wo_ne (K := K) hr.units) (pe_callB (Wp.wc_repr (K := K) Wp.guards_top (u65 hr)) (by rfl) B.repr (by decide +kernel) (pa_cons (pv 4) pa_nil)) (pe_callB (Wp.wc_repr (K := K) Wp.guards_top (u65 hr)) (by rfl) B.repr (by decide +kernel) (pa_cons (pv 3) pa_nil)) (nomark _)) (pss_one (ps_ret pe_bl)) pss_nil)
  (pss_cons (ps_for (passes_of rfl) rfl (pi_range1 (by rfl) B.range (pa_cons pe_int pa_nil)) (pg_name (i := 5) sc_law.nd rfl (by first | exact .inl rfl | exact .inr rfl)) (pss_cons (ps_asg (pe_call G__law_spoilt (hr.mono (by decide)) (by rfl) D__law_spoilt.g D__law_spoilt.k D__law_spoilt.b .nil pass0 (pa_cons (pe_call G__law_source (hr.mono (by decide)) (by rfl) D__law_source.g D__law_source.k D__law_source.b .nil pass0 (pa_cons (pv 0) (pa_cons (pe_op (wo_add (K := K)) (pv 5) pe_int) pa_nil))) (pa_cons (pv 2) (pa_cons (pv 3) pa_nil)))) (Wp.wg_tup (K := K) (n := 2) rfl (pgs_cons (pg_name (i := 6) sc_law.nd rfl (by first | exact .inl rfl | exact .inr rfl)) (pgs_cons (pg_name (i := 7) sc_law.nd rfl (by first | exact .inl rfl | exact .inr rfl)) pgs_nil))))
  (pss_one (ps_if (pt_cmpR (wo_ne (K := K) hr.units) (pe_call G__law_place (hr.mono (by decide)) (by rfl) D__law_place.g D__law_place.k D__law_place.b .nil pass0 (pa_cons (pv 2) (pa_cons (pv 6) pa_nil))) (pv 7) (nomark _)) (pss_one (ps_ret pe_bl)) pss_nil))))
  (pss_cons (ps_if (pt_cmpR (wo_eq (K := K) hr.units) (pe_call G__law_pick (hr.mono (by decide)) (by rfl) D__law_pick.g D__law_pick.k D__law_pick.b .nil pass0 (pa_cons (pv 1) (pa_cons pe_int pa_nil))) pe_int (nomark _)) (pss_cons (ps_set (i := 8) sc_law.nd rfl (by first | exact .inl rfl | exact .inr rfl) (pe_op (wo_add (K := K)) pe_int (pe_call G__law_pick (hr.mono (by decide)) (by rfl) D__law_pick.g D__law_pick.k D__law_pick.b .nil pass0 (pa_cons (pv 1) (pa_cons pe_int pa_nil)))))
  (pss_cons (ps_set (i := 10) sc_law.nd rfl (by first | exact .inl rfl | exact .inr rfl) (pe_callTy (Wp.wc_tuple (K := K)) (by rfl) B.tuple (by decide +kernel) (pa_cons (pe_lc (own := [("_law_k", 9)]) (g := gName 9) (by rfl) sc_law.nd (pi_range1 (by rfl) B.range (pa_cons (pv 8) pa_nil)) (blkOk_by (own := [("_law_k", 9)]) (N := N_law) (sc := defScope s_law) (by decide +kernel)) (fun _ _ _ _ _ => pg_name (i := 9) sc_law.nd rfl (Or.inl rfl)) (fun _ _ _ _ _ => pts_nil) (fun _ _ _ _ _ => (pe_tup (pa_cons (pe_op op_fdivN (pv 9) pe_int) (pa_cons (pe_ix (Wp.wx_seq (K := K)) (pv 2) pe_int (fun _ _ => rfl)) (pa_cons (pe_op op_modN (pe_callTy wc_int (by rfl) B.int (by decide +kernel) (pa_cons (pv 9) pa_nil)) pe_int) pa_nil)))))) pa_nil)))
  (pss_one (ps_if (pt_cmpR (wo_ne (K := K) hr.units) (pe_call G__law_place (hr.mono (by decide)) (by rfl) D__law_place.g D__law_place.k D__law_place.b .nil pass0 (pa_cons (pv 2) (pa_cons (pe_tup (pa_cons pe_int (pa_cons (pv 10) (pa_cons (pe_tup (pa_cons pe_int pa_nil)) pa_nil)))) pa_nil))) (pe_ifExp (pt_cmpR (wo_eq (K := K) hr.units) (pv 8) pe_int (nomark _)) pe_non (pe_un un_neg pe_int)) (nomark _)) (pss_one (ps_ret pe_bl)) pss_nil)))) pss_nil)
  (pss_cons (ps_set (i := 11) sc_law.nd rfl (by first | exact .inl rfl | exact .inr rfl) (pe_lst (pa_cons pe_str (pa_cons pe_str (pa_cons pe_str (pa_cons pe_str (pa_cons pe_int (pa_cons pe_str (pa_cons pe_non (pa_cons pe_str (pa_cons (pe_tup (pa_cons pe_str (pa_cons pe_str pa_nil))) (pa_cons pe_str pa_nil))))))))))))
  (pss_cons (ps_set (i := 12) sc_law.nd rfl (by first | exact .inl rfl | exact .inr rfl) (pe_ix (Wp.wx_seq (K := K)) (pv 11) (pe_call G__law_pick (hr.mono (by decide)) (by rfl) D__law_pick.g D__law_pick.k D__law_pick.b .nil pass0 (pa_cons (pv 1) (pa_cons pe_int pa_nil))) (fun _ _ => rfl)))
  (pss_one (ps_try_as (i := 13) (tb := fun W => tSeq (tDrop (tCallS (spChecked K CS CA) (WE W) (tCons (tVar 12) (tCons (tIf (tTest (tOp (Wp.rEqU K) (tCall spPick [] E0 (tCons (tVar 1) (tCons (tC (.int 2)) tNil))) (tC (.int 0)))) (tVar 3) (tC .non)) tNil)))) (tRet (tC (.bl false)))) (Wout := fun _ _ _ _ => False) rfl rfl sc_law.nd rfl rfl ⟨rfl, by decide, Or.inl T.g⟩ takes0
 (fun W pn xe tk _ => pss_cons (ps_expr (by exact (pe_callS G_checked_automaton (hr.mono (by decide)) rfl D_checked_automaton.g D_checked_automaton.k D_checked_automaton.b (fun σ => passAt tk σ) (by exact (pa_cons (pv 12) (pa_cons (pe_ifExp (pt_cmpR (wo_eq (K := K) hr.units) (pe_call G__law_pick (hr.mono (by decide)) (by rfl) D__law_pick.g D__law_pick.k D__law_pick.b .nil pass0 (pa_cons (pv 1) (pa_cons pe_int pa_nil))) pe_int (nomark _)) (pv 3) pe_non) pa_nil)))))) (pss_one (ps_ret pe_bl)))
 (fun a oe cls d pn hz hf => pss_one (ps_ret (pe_and (pe_cmpR (wo_eq (K := K) hr.units) (pe_xf T.xf T.no hz hf (pv 13)) (pv 12) (nomark _)) (pe_and (pe_callB (Wp.call_isEd (K := K) T.ec hz hf) (by rfl) B.isinstance (by decide +kernel) (pa_cons (pv 13) (pa_cons (pe_glob (v := .ref CT) (by rfl) k_WrongThing rfl) pa_nil))) (pe_one (pe_not (pe_callB (Wp.call_isEd (K := K) T.ec hz hf) (by rfl) B.isinstance (by decide +kernel) (pa_cons (pv 13) (pa_cons (pe_glob (v := .ref CI) (by rfl) k_WrongItem rfl) pa_nil)))))))))))))))))))), ?_⟩
    refine Wp.st (σ' := [some (.ref a0), none, none, none, none, none, none, none, none, none, none, none, none, none]) rfl ?_
    refine Wp.cutQ (fun σ' H' => ∃ a, σ' = [some (.ref a0), some (.ref a), none, none, none, none, none, none, none, none, none, none, none, none] ∧ H a = none ∧ Same H H' ∧ Src H' a) (fun nx hn => ?_) ?_
    · repeat walk_at "W"
      refine ⟨a0, zs, 0, rfl, hS, hlen, hbits, by decide, by decide, fun H1 a s1 ha c1 => ?_⟩
      repeat walk_at "W"
      exact hn _ _ ⟨a, rfl, ha, s1, c1⟩
    rintro σ' H1 ⟨a, rfl, ha, s1, c1⟩
    refine Wp.cutQ (fun σ' H' => ∃ sg, σ' = [some (.ref a0), some (.ref a), some (.str sg), none, none, none, none, none, none, none, none, none, none, none] ∧ sg ∈ menu ∧ Src H' a ∧ Keep a H1 H') (fun nx hn => ?_) ?_
    · repeat walk_at "W"
      refine ⟨a, rfl, c1, fun sg H2 hmn c2 k2 => ?_⟩
      repeat walk_at "W"
      exact hn _ _ ⟨sg, rfl, hmn, c2, k2⟩
    rintro σ' H2 ⟨sg, rfl, hmn, c2, k2⟩
    refine Wp.cutQ (fun σ' H' => ∃ r m es ns, σ' = [some (.ref a0), some (.ref a), some (.str sg), some (.ref r), none, none, none, none, none, none, none, none, none, none] ∧ Good sg m es ns ∧ m ≤ 5 ∧ es.length ≤ 11 ∧ Lw K a r (autoD m es ns) H H') (fun nx hn => ?_) ?_
    · repeat walk_at "W"
      refine ⟨a, sg, rfl, c2, hmn, fun H3 r m es ns g hm5 hel k3 c3 hd => ?_⟩
      repeat walk_at "W"
      exact hn _ _ ⟨r, m, es, ns, rfl, g, hm5, hel, fun b o e => k3 b o (ne_of_none e ha) (k2 b o (ne_of_none e ha) (s1 b o e)), c3, hd⟩
    rintro σ' H3 ⟨r, m, es, ns, rfl, g, hm5, hel, l3⟩
    have hsl := menu_len sg hmn
    have hgood := good_menu sg hmn
    have hnl := noL_auto g
    refine Wp.cutQ (fun σ' H' => ∃ p, σ' = [some (.ref a0), some (.ref a), some (.str sg), some (.ref r), some (.ref p), none, none, none, none, none, none, none, none, none] ∧ Dp K H' (.ref p) (autoD m es ns) ∧ Lw K a r (autoD m es ns) H H') (fun nx hn => ?_) ?_
    · iterate 5 walk_at "W"
      refine Wp.cutE (fun v H' => ∃ d', Dp K H' v d' ∧ Wp.sm d' = true ∧ autoOf sg d' = .ok (autoD m es ns) ∧ Lw K a r (autoD m es ns) H H') (fun R hR => ?_) ?_
      · repeat walk_at "W"
        refine ⟨a, 2, rfl, l3.c, by decide, by decide, fun x4 H4 h40 h41 k4 c4 => ?_⟩
        have l4 := l3.go ha hnl k4 c4
        repeat walk_at "W"
        refine Wp.itd (fun e1 => ?_) (fun e1 => ?_)
        · repeat walk_at "W"
          exact hR _ _ ⟨_, l4.d, sm_auto g, auto_good g, l4⟩
        · repeat walk_at "W"
          refine ⟨_, m, es, ns, rfl, l4.d, fun e he => (g.ee e he).2, by omega, fun H5 p s5 hp => ?_⟩
          exact hR _ _ ⟨_, hp, sm_listD g, auto_list g, l4.sm s5⟩
      rintro v H5 ⟨d', hd', hs', ha', l5⟩
      repeat walk_at "W"
      refine ⟨.str sg, .str sg, v, d', rfl, .str sg, hd', fun z e => (by cases e; omega), fun _ => hs', fun hb => (by rw [hgood] at hb; cases hb), fun sg' e _ => ?_⟩
      cases e
      refine ⟨fun r' hr' H6 u s6 hu => ?_, fun i hi => by rw [ha'] at hi; cases hi⟩
      rw [ha'] at hr'; cases hr'
      have l6 := l5.sm s6
      obtain ⟨p, _, _, _, rfl, _⟩ := auto_parts hu
      repeat walk_at "W"
      exact hn _ _ ⟨p, rfl, hu, l6⟩
    rintro σ' H6 ⟨p, rfl, hu, l6⟩
    obtain ⟨w1, w2, w3, w4⟩ := (shw_auto hmn g).all (by omega) (by omega)
    refine Wp.cutQ (fun σ' H' => σ' = [some (.ref a0), some (.ref a), some (.str sg), some (.ref r), some (.ref p), none, none, none, none, none, none, none, none, none] ∧ H' = H6) (fun nx hn => ?_) ?_
    · repeat walk_at "W"
      refine ⟨p, _, rfl, hu, w1, w2, w3, w4, ?_⟩
      repeat walk_at "W"
      refine ⟨r, _, rfl, l6.d, w1, w2, w3, w4, ?_⟩
      generalize (autoD m es ns).shown = z
      repeat walk_at "W"
      refine Wp.itnn ?_
      repeat walk_at "W"
      exact hn _ _ ⟨rfl, rfl⟩
    rintro σ' H6 ⟨rfl, rfl⟩
    refine Wp.cutQ (fun σ' H' => ∃ x5 x6 x7, σ' = [some (.ref a0), some (.ref a), some (.str sg), some (.ref r), some (.ref p), x5, x6, x7, none, none, none, none, none, none] ∧ Lw K a r (autoD m es ns) H H') (fun nx hn => ?_) ?_
    · repeat walk_at "W"
      refine ⟨3, rfl, by omega, by omega, ?_⟩
      refine Wp.forIt walk_range (fun i σ1 H1 => ∃ x5 x6 x7, σ1 = [some (.ref a0), some (.ref a), some (.str sg), some (.ref r), some (.ref p), x5, x6, x7, none, none, none, none, none, none] ∧ Lw K a r (autoD m es ns) H H1) ⟨_, _, _, rfl, l6⟩ (fun _ _ _ _ _ => trivial) ?_ hn
      rintro i x σ1 H1 H1' hi ⟨x5, x6, x7, rfl, l⟩ ⟨rfl, rfl⟩
      have hi3 : i < 3 := hi
      repeat walk_at "W"
      refine ⟨a0, zs, _, rfl, l.s.seq hS, hlen, hbits, by omega, by omega, fun H7 b s7 hb cb => ?_⟩
      have l7 := l.sm s7
      repeat walk_at "W"
      refine ⟨b, sg, r, m, es, ns, rfl, cb, hmn, l7.d, g, hm5, hel, fun H8 t v d i k8 c8 ht hv hsm hau => ?_⟩
      have s8 : Same H1' H8 := fun y o e => k8 y o (ne_of_none e hb) (s7 y o e)
      have l8 := l.sm s8
      refine Wp.gt ht rfl ?_
      repeat walk_at "W"
      refine ⟨sg, v, d, rfl, hv, hsm, hgood, by omega, fun r' hr' => (by rw [hau] at hr'; cases hr'), fun i' hi' H9 s9 => ?_⟩
      rw [hau] at hi'; cases hi'
      repeat walk_at "W"
      refine Wp.itnn ?_
      repeat walk_at "W"
      exact ⟨_, _, _, rfl, l8.sm s9⟩
    rintro σ1 H7 ⟨x5, x6, x7, rfl, l7⟩
    refine Wp.cutQ (fun σ' H' => ∃ x8 x9 x10, σ' = [some (.ref a0), some (.ref a), some (.str sg), some (.ref r), some (.ref p), x5, x6, x7, x8, x9, x10, none, none, none] ∧ Lw K a r (autoD m es ns) H H') (fun nx hn => ?_) ?_
    · repeat walk_at "W"
      refine ⟨a, 6, rfl, l7.c, by decide, by decide, fun x8 H8 h80 h81 k8 c8 => ?_⟩
      have l8 := l7.go ha hnl k8 c8
      repeat walk_at "W"
      refine Wp.itd (fun e1 => ?_) (fun e1 => ?_)
      · obtain ⟨c, hc, hat⟩ := sg_ix (sg := sg) (r := 0) (by omega) (by have := hsl.2.1; omega)
        refine Wp.cutQ (fun σ' H' => ∃ n9 : Nat, n9 < 2 ∧ σ' = [some (.ref a0), some (.ref a), some (.str sg), some (.ref r), some (.ref p), x5, x6, x7, some (.int (400 + (n9 : Int))), none, none, none, none, none] ∧ Lw K a r (autoD m es ns) H H') (fun nx hn => ?_) ?_
        · repeat walk_at "W"
          refine ⟨a, 2, rfl, l8.c, by decide, by decide, fun x9 H9 h90 h91 k9 c9 => ?_⟩
          obtain ⟨n9, rfl⟩ := Int.eq_ofNat_of_zero_le h90
          repeat walk_at "W"
          exact hn _ _ ⟨n9, by omega, rfl, l8.go ha hnl k9 c9⟩
        rintro σ' H9 ⟨n9, h91, rfl, l9⟩
        refine Wp.cutQ (fun σ' H' => ∃ t us x9, σ' = [some (.ref a0), some (.ref a), some (.str sg), some (.ref r), some (.ref p), x5, x6, x7, some (.int (400 + (n9 : Int))), x9, some (.ref t), none, none, none] ∧ Same H9 H' ∧ SqT K H' t us ∧ DpAll K H' us (bigEs c (400 + n9))) (fun nx hn => ?_) ?_
        · repeat walk_at "W"
          refine ⟨400 + (n9 : Int), rfl, by omega, by omega, fun A hA => ?_⟩
          refine Wp.lcIt walk_range (fun i H1 => Same H9 H1 ∧ ∃ ws, H1 A = some (.lst ws) ∧ DpAll K H1 ws (bigEs c i)) ⟨Wp.same_upd hA, [], upd_same, .nil⟩ (fun _ _ _ _ => trivial) ?_ ?_
          · rintro i x H10 H10' hi ⟨s10, ws, hl, hws⟩ ⟨rfl, rfl⟩
            have hi4 : i ≤ 400 := by omega
            have hwl := Wp.dps_len hws
            rw [bigEs_len] at hwl
            repeat walk_at "W"
            refine Wp.ixs (by have := hsl.1; exact Nat.le_of_lt (small1000 (by omega))) hat ?_
            repeat walk_at "W"
            intro T hT
            have u1 : Same H10' _ := Wp.same_upd (o := .tup [.int ((0 + (i : Int)).fdiv 40), .str ⟨#[c]⟩, .int ((0 + (i : Int)).fmod 40)]) hT
            repeat walk_at "W"
            refine ⟨ws, u1 _ _ hl, small1000 (by omega), fun b o e => ?_, _, upd_same, ?_⟩
            · rw [upd_ne (ne_of_none e hA)]; exact u1 _ _ (s10 _ _ e)
            · have e1 : (0 + (i : Int)).fdiv 40 = (i : Int) / 40 := by rw [Int.zero_add]; exact Int.fdiv_eq_ediv_of_nonneg _ (by omega)
              have e2 : (0 + (i : Int)).fmod 40 = (i : Int) % 40 := by rw [Int.zero_add]; exact Int.fmod_eq_emod_of_nonneg _ (by omega)
              have hdT : Dp K (upd H10' T (.tup [.int ((0 + (i : Int)).fdiv 40), .str ⟨#[c]⟩, .int ((0 + (i : Int)).fmod 40)])) (.ref T) (bigE c i) := by
                refine .tup (SqT.of upd_same) ?_
                rw [e1, e2]
                exact .cons (.int _) (.cons (.str _) (.cons (.int _) .nil))
              rw [show bigEs c (i + 1) = bigEs c i ++ [bigE c i] by rw [bigEs, List.range_succ, List.map_append]; rfl]
              refine Wp.dps_append (Wp.dps_upd (u1 _ _ hl) _ _ (Wp.noLA_of fun e he => noL_okE (bigEs_ok hc (by omega) e he)) (Wp.dps_same u1 _ _ hws)) (.cons (Wp.dp_upd (u1 _ _ hl) _ _ rfl hdT) .nil)
          · rintro H10 ⟨s10, ws, hl, hws⟩
            repeat walk_at "W"
            refine Wp.tupL (SqL.of hl) fun t1 ht1 => ?_
            have u1 := Wp.same_upd (o := .tup ws) ht1
            repeat walk_at "W"
            refine hn _ _ ⟨t1, ws, _, rfl, s10.trans u1, SqT.of upd_same, ?_⟩
            exact Wp.dps_same u1 _ _ (by rw [show (400 + (n9 : Int)).toNat = 400 + n9 by omega] at hws; exact hws)
        rintro σ' H10 ⟨t, us, y9, rfl, s10, hts, hus⟩
        repeat walk_at "W"
        intro T1 h1
        have u1 := Wp.same_upd (o := .tup [.int 39]) h1
        repeat walk_at "W"
        intro T2 h2
        have u2 : Same _ _ := Wp.same_upd (o := .tup [.int 40, .ref t, .ref T1]) h2
        have hdt : Dp K (upd (upd H10 T1 (.tup [.int 39])) T2 (.tup [.int 40, .ref t, .ref T1])) (.ref T2) (.tuple [.int 40, .tuple (bigEs c (400 + n9)), .tuple [.int 39]]) :=
          .tup (SqT.of upd_same) (.cons (.int _) (.cons (.tup (Wp.sameT (u1.trans u2) hts) (Wp.dps_same (u1.trans u2) _ _ hus)) (.cons (.tup (Wp.sameT u2 (SqT.of upd_same)) (.cons (.int _) .nil)) .nil)))
        repeat walk_at "W"
        have hbad := big_401 (sg := sg) (c := c)
        obtain ⟨rg, Wp.guards_top⟩ := big_400 (sg := sg) hc
        have l10 := l9.sm s10
        refine ⟨sg, .ref T2, _, rfl, hdt, sm_big hc (by omega), hgood, by omega, fun r' hr' H11 s11 => ?_, fun i hi H11 s11 => ?_⟩
        · have e9 : n9 = 0 := by
            rcases (show n9 = 0 ∨ n9 = 1 by omega) with z | z
            · exact z
            · rw [z] at hr'; rw [hbad] at hr'; cases hr'
          subst e9
          repeat walk_at "W"
          refine .inl ⟨rfl, ?_⟩
          repeat walk_at "W"
          exact hn _ _ ⟨_, _, _, rfl, l10.sm ((u1.trans u2).trans s11)⟩
        · have e9 : n9 = 1 := by
            rcases (show n9 = 0 ∨ n9 = 1 by omega) with z | z
            · rw [z] at hi; rw [Wp.guards_top] at hi; cases hi
            · exact z
          subst e9
          rw [hbad] at hi; cases hi
          repeat walk_at "W"
          exact hn _ _ ⟨_, _, _, rfl, l10.sm ((u1.trans u2).trans s11)⟩
      · repeat walk_at "W"
        exact hn _ _ ⟨_, _, _, rfl, l8⟩
    rintro σ' H8 ⟨x8, x9, x10, rfl, l8⟩
    refine Wp.cutQ (fun σ' H' => ∃ M vs, σ' = [some (.ref a0), some (.ref a), some (.str sg), some (.ref r), some (.ref p), x5, x6, x7, x8, x9, x10, some (.ref M), none, none] ∧ M ≠ a ∧ H' M = some (.lst vs) ∧ vs.length = 10 ∧ DpAll K H' vs oddS ∧ Lw K a r (autoD m es ns) H H') (fun nx hn => ?_) ?_
    · repeat walk_at "W"
      intro T hT
      have u1 := Wp.same_upd (o := .tup [.str "a", .str "b"]) hT
      repeat walk_at "W"
      intro M hM
      have u2 : Same _ _ := Wp.same_upd (o := .lst [.str "ba", .str "", .str "aab", .str "aB", .int 5, .str "abcdefghi", .non, .str "a b", .ref T, .str "a1"]) hM
      repeat walk_at "W"
      refine hn _ _ ⟨M, _, rfl, (l8.sm u1).ne hM, upd_same, rfl, ?_, (l8.sm u1).sm u2⟩
      exact .cons (.str _) (.cons (.str _) (.cons (.str _) (.cons (.str _) (.cons (.int _) (.cons (.str _) (.cons .non (.cons (.str _) (.cons (.tup (Wp.sameT u2 (SqT.of upd_same)) (.cons (.str _) (.cons (.str _) .nil))) (.cons (.str _) .nil)))))))))
    rintro σ' H9 ⟨M, vs, rfl, hMa, hM, hvl, hvs, l9⟩
    refine Wp.cutQ (fun σ' H' => ∃ v d, σ' = [some (.ref a0), some (.ref a), some (.str sg), some (.ref r), some (.ref p), x5, x6, x7, x8, x9, x10, some (.ref M), some v, none] ∧ d ∈ oddS ∧ Dp K H' v d ∧ Lw K a r (autoD m es ns) H H') (fun nx hn => ?_) ?_
    · repeat walk_at "W"
      refine ⟨a, 10, rfl, l9.c, by decide, by decide, fun x H10 h0 h1 k10 c10 => ?_⟩
      obtain ⟨z1, z2, z3, ha9⟩ := l9.c
      have hvs10 := Wp.dps_keep ha9 k10 _ _ (Wp.noLA_of fun d hd => (odd_s d hd).2.2.2.1) hvs
      obtain ⟨v, d, hat, hdm, hvd⟩ := Wp.dps_at hvs10 h0 (by omega)
      refine Wp.ixl (SqL.of (k10 _ _ hMa hM)) hat ?_
      repeat walk_at "W"
      exact hn _ _ ⟨v, d, rfl, hdm, hvd, l9.go ha hnl k10 c10⟩
    rintro σ' H10 ⟨v, d, rfl, hdm, hvd, l10⟩
    obtain ⟨o1, o2, o3, o4, o5⟩ := odd_s d hdm
    refine (show tSeq _ _ _ _ _ from Wp.seq ?_)
    refine (show tDrop _ _ _ _ from Wp.drop ?_)
    refine (show tCons _ _ _ _ _ from ?_)
    iterate 2 walk_at "W"
    refine Wp.cutE (fun y H' => ∃ d2, Dp K H' y d2 ∧ Dp K H' v d ∧ Wp.sm d2 = true) (fun R hR => ?_) ?_
    · repeat walk_at "W"
      refine ⟨a, 2, rfl, l10.c, by decide, by decide, fun x4 H11 h40 h41 k11 c11 => ?_⟩
      have l11 := l10.go ha hnl k11 c11
      obtain ⟨z1, z2, z3, ha10⟩ := l10.c
      have hvd11 := Wp.dp_keep ha10 k11 _ _ o4 hvd
      repeat walk_at "W"
      refine Wp.itd (fun e1 => ?_) (fun e1 => ?_)
      · repeat walk_at "W"
        exact hR _ _ ⟨_, l11.d, hvd11, sm_auto g⟩
      · repeat walk_at "W"
        exact hR _ _ ⟨.none, .non, hvd11, rfl⟩
    rintro y H11 ⟨d2, hd2, hvd, hs2⟩
    repeat walk_at "W"
    refine ⟨v, d, y, d2, rfl, hvd, hd2, Wp.sm_str o5, fun _ => hs2, fun _ dd H' h1 s1 h3 => ⟨true, T.te, fun _ a1 ha1 => ?_, fun q => Bool.noConfusion q⟩, fun sg' e hb => ?_⟩
    · have hvd := Wp.dp_same s1 _ _ hvd
      repeat walk_at "W"
      refine ⟨_, rfl, rfl, rfl, dd, _, v, rfl, h3, rfl, ?_⟩
      repeat walk_at "W"
      refine .inr ⟨d, d, hvd, hvd, o2, o2, ?_⟩
      rw [o3]
      repeat walk_at "W"
      refine ⟨.ref CT, .ref CT, true, rfl, rfl, fun u r => r, i1, ⟨dd, _, rfl, h3⟩, ?_⟩
      repeat walk_at "W"
      refine ⟨.ref CI, .ref CI, false, rfl, rfl, fun u r => r, i2, ⟨dd, _, rfl, h3⟩, ?_⟩
      repeat walk_at "W"
      exact q _
    · subst e; rw [hb] at o1; cases o1
end
end K01
set_option Elab.async false
set_option linter.all false
set_option maxRecDepth 100000
namespace Wp
open PySem PySem.Spec PyProof.Rows L2
theorem kitCls_of {K : PySem.W.Frag} {D C : Addr} {v : Bool} (h2 : PySem.W.isClsIn K C = true) (h3 : PySem.W.typeIn K (.ref C) = some (.type "type")) (s : PySem.W.subIn K (.ref D) (.ref C) = some v) : PySem.W.kitCls K (.ref D) (.ref C) = some v := by
  have h2' : (PySem.W.clsIn K C).isSome = true := h2
  show (if ((PySem.W.clsIn K C).isSome && PySem.W.typeIn K (.ref C) == some (.type "type")) = true then PySem.W.subIn K (.ref D) (.ref C) else none) = some v
  rw [h2', h3, if_pos (by rfl)]
  exact s
theorem kit_of {K : PySem.W.Frag} {D C : Addr} {v : Bool} (h2 : PySem.W.isClsIn K C = true) (h3 : PySem.W.typeIn K (.ref C) = some (.type "type")) (s : PySem.W.subIn K (.ref D) (.ref C) = some v) (self : PySem.W.subIn K (.ref D) (.ref D) = some true) : PySem.W.kitOne K (.ref D) (.ref C) = some v := by
  show (if (Value.ref D == Value.ref C) = true then some true else PySem.W.kitCls K (.ref D) (.ref C)) = some v
  by_cases h : (Value.ref D == Value.ref C) = true
  · rw [if_pos h]
    have e : D = C := by
      have z : Value.ref D = Value.ref C := eq_of_beq h
      cases z; rfl
    subst e
    exact self.symm.trans s
  · rw [if_neg h]; exact kitCls_of h2 h3 s
theorem exm_of {K : PySem.W.Frag} {S : Addr} (h1 : PySem.W.subIn K (.ref S) (.type "BaseException") = some true) (h2 : PySem.W.isClsIn K S = true) (h3 : PySem.W.typeIn K (.ref S) = some (.type "type")) (h4 : PySem.W.subIn K (.ref S) (.ref S) = some true) : PySem.W.exmOne K (.ref S) (.ref S) = some true := by
  show (if (PySem.W.subIn K (.ref S) (.type "BaseException") == some true) = true then PySem.W.kitCls K (.ref S) (.ref S) else none) = some true
  rw [h1, if_pos (by rfl)]
  exact kitCls_of h2 h3 h4
end Wp
namespace K01
open PySem PySem.Spec PyProof.Rows L2
section
theorem all_mk {l : PySem.W.OpenLaw} {w : World} {K : PySem.W.Frag} {h : Heap} {mg : Str → Option Value} {fa : Addr} (X : K.In h) (G : h.Ns mainGlobals mg) (hfa : mg "law" = some (.ref fa))
    {f1 : Addr} {od1 an1 : Option Addr} {sl1 : Array (Option Value)} {oc1 kV1 dc1 pm1 cd1 ct1 : Value}
    (a1 : PySem.W.nsIn K mainGlobals "is_whole" = some (some (.ref f1)))
    (l1 : K.lookup f1 = some ⟨oc1, od1, .func (PySem.W.fnOf "is_whole" "is_whole" (defArgs s_is_whole) (defBody s_is_whole) (defScope s_is_whole) .none kV1 dc1 pm1 an1 cd1 ct1), sl1⟩)
    (c1 : PySem.W.codeIn K cd1 "is_whole" = true)
    (k1 : PySem.W.keepIn K (.ref f1) = true)
    {f2 : Addr} {od2 an2 : Option Addr} {sl2 : Array (Option Value)} {oc2 kV2 dc2 pm2 cd2 ct2 : Value}
    (a2 : PySem.W.nsIn K mainGlobals "is_row" = some (some (.ref f2)))
    (l2 : K.lookup f2 = some ⟨oc2, od2, .func (PySem.W.fnOf "is_row" "is_row" (defArgs s_is_row) (defBody s_is_row) (defScope s_is_row) .none kV2 dc2 pm2 an2 cd2 ct2), sl2⟩)
    (c2 : PySem.W.codeIn K cd2 "is_row" = true)
    (k2 : PySem.W.keepIn K (.ref f2) = true)
    {f3 : Addr} {od3 an3 : Option Addr} {sl3 : Array (Option Value)} {oc3 kV3 dc3 pm3 cd3 ct3 : Value}
    (a3 : PySem.W.nsIn K mainGlobals "is_between" = some (some (.ref f3)))
    (l3 : K.lookup f3 = some ⟨oc3, od3, .func (PySem.W.fnOf "is_between" "is_between" (defArgs s_is_between) (defBody s_is_between) (defScope s_is_between) .none kV3 dc3 pm3 an3 cd3 ct3), sl3⟩)
    (c3 : PySem.W.codeIn K cd3 "is_between" = true)
    (k3 : PySem.W.keepIn K (.ref f3) = true)
    {f4 : Addr} {od4 an4 : Option Addr} {sl4 : Array (Option Value)} {oc4 kV4 dc4 pm4 cd4 ct4 : Value}
    (a4 : PySem.W.nsIn K mainGlobals "is_text" = some (some (.ref f4)))
    (l4 : K.lookup f4 = some ⟨oc4, od4, .func (PySem.W.fnOf "is_text" "is_text" (defArgs s_is_text) (defBody s_is_text) (defScope s_is_text) .none kV4 dc4 pm4 an4 cd4 ct4), sl4⟩)
    (c4 : PySem.W.codeIn K cd4 "is_text" = true)
    (k4 : PySem.W.keepIn K (.ref f4) = true)
    {f5 : Addr} {od5 an5 : Option Addr} {sl5 : Array (Option Value)} {oc5 kV5 dc5 pm5 cd5 ct5 : Value}
    (a5 : PySem.W.nsIn K mainGlobals "checked_signs" = some (some (.ref f5)))
    (l5 : K.lookup f5 = some ⟨oc5, od5, .func (PySem.W.fnOf "checked_signs" "checked_signs" (defArgs s_checked_signs) (defBody s_checked_signs) (defScope s_checked_signs) .none kV5 dc5 pm5 an5 cd5 ct5), sl5⟩)
    (c5 : PySem.W.codeIn K cd5 "checked_signs" = true)
    (k5 : PySem.W.keepIn K (.ref f5) = true)
    {f6 : Addr} {od6 an6 : Option Addr} {sl6 : Array (Option Value)} {oc6 kV6 dc6 pm6 cd6 ct6 : Value}
    (a6 : PySem.W.nsIn K mainGlobals "is_edge" = some (some (.ref f6)))
    (l6 : K.lookup f6 = some ⟨oc6, od6, .func (PySem.W.fnOf "is_edge" "is_edge" (defArgs s_is_edge) (defBody s_is_edge) (defScope s_is_edge) .none kV6 dc6 pm6 an6 cd6 ct6), sl6⟩)
    (c6 : PySem.W.codeIn K cd6 "is_edge" = true)
    (k6 : PySem.W.keepIn K (.ref f6) = true)
    {f7 : Addr} {od7 an7 : Option Addr} {sl7 : Array (Option Value)} {oc7 kV7 dc7 pm7 cd7 ct7 : Value}
    (a7 : PySem.W.nsIn K mainGlobals "automaton_of" = some (some (.ref f7)))
    (l7 : K.lookup f7 = some ⟨oc7, od7, .func (PySem.W.fnOf "automaton_of" "automaton_of" (defArgs s_automaton_of) (defBody s_automaton_of) (defScope s_automaton_of) .none kV7 dc7 pm7 an7 cd7 ct7), sl7⟩)
    (c7 : PySem.W.codeIn K cd7 "automaton_of" = true)
    (k7 : PySem.W.keepIn K (.ref f7) = true)
    {f8 : Addr} {od8 an8 : Option Addr} {sl8 : Array (Option Value)} {oc8 kV8 dc8 pm8 cd8 ct8 : Value}
    (a8 : PySem.W.nsIn K mainGlobals "edges_of" = some (some (.ref f8)))
    (l8 : K.lookup f8 = some ⟨oc8, od8, .func (PySem.W.fnOf "edges_of" "edges_of" (defArgs s_edges_of) (defBody s_edges_of) (defScope s_edges_of) .none kV8 dc8 pm8 an8 cd8 ct8), sl8⟩)
    (c8 : PySem.W.codeIn K cd8 "edges_of" = true)
    (k8 : PySem.W.keepIn K (.ref f8) = true)
    {f9 : Addr} {od9 an9 : Option Addr} {sl9 : Array (Option Value)} {oc9 kV9 dc9 pm9 cd9 ct9 : Value}
    (a9 : PySem.W.nsIn K mainGlobals "ends_of" = some (some (.ref f9)))
    (l9 : K.lookup f9 = some ⟨oc9, od9, .func (PySem.W.fnOf "ends_of" "ends_of" (defArgs s_ends_of) (defBody s_ends_of) (defScope s_ends_of) .none kV9 dc9 pm9 an9 cd9 ct9), sl9⟩)
    (c9 : PySem.W.codeIn K cd9 "ends_of" = true)
    (k9 : PySem.W.keepIn K (.ref f9) = true)
    {f10 : Addr} {od10 an10 : Option Addr} {sl10 : Array (Option Value)} {oc10 kV10 dc10 pm10 cd10 ct10 : Value}
    (a10 : PySem.W.nsIn K mainGlobals "checked_automaton" = some (some (.ref f10)))
    (l10 : K.lookup f10 = some ⟨oc10, od10, .func (PySem.W.fnOf "checked_automaton" "checked_automaton" (defArgs s_checked_automaton) (defBody s_checked_automaton) (defScope s_checked_automaton) .none kV10 dc10 pm10 an10 cd10 ct10), sl10⟩)
    (c10 : PySem.W.codeIn K cd10 "checked_automaton" = true)
    (k10 : PySem.W.keepIn K (.ref f10) = true)
    {f11 : Addr} {od11 an11 : Option Addr} {sl11 : Array (Option Value)} {oc11 kV11 dc11 pm11 cd11 ct11 : Value}
    (a11 : PySem.W.nsIn K mainGlobals "_law_source" = some (some (.ref f11)))
    (l11 : K.lookup f11 = some ⟨oc11, od11, .func (PySem.W.fnOf "_law_source" "_law_source" (defArgs s__law_source) (defBody s__law_source) (defScope s__law_source) .none kV11 dc11 pm11 an11 cd11 ct11), sl11⟩)
    (c11 : PySem.W.codeIn K cd11 "_law_source" = true)
    (k11 : PySem.W.keepIn K (.ref f11) = true)
    {f12 : Addr} {od12 an12 : Option Addr} {sl12 : Array (Option Value)} {oc12 kV12 dc12 pm12 cd12 ct12 : Value}
    (a12 : PySem.W.nsIn K mainGlobals "_law_pick" = some (some (.ref f12)))
    (l12 : K.lookup f12 = some ⟨oc12, od12, .func (PySem.W.fnOf "_law_pick" "_law_pick" (defArgs s__law_pick) (defBody s__law_pick) (defScope s__law_pick) .none kV12 dc12 pm12 an12 cd12 ct12), sl12⟩)
    (c12 : PySem.W.codeIn K cd12 "_law_pick" = true)
    (k12 : PySem.W.keepIn K (.ref f12) = true)
    {f13 : Addr} {od13 an13 : Option Addr} {sl13 : Array (Option Value)} {oc13 kV13 dc13 pm13 cd13 ct13 : Value}
    (a13 : PySem.W.nsIn K mainGlobals "_law_signs" = some (some (.ref f13)))
    (l13 : K.lookup f13 = some ⟨oc13, od13, .func (PySem.W.fnOf "_law_signs" "_law_signs" (defArgs s__law_signs) (defBody s__law_signs) (defScope s__law_signs) .none kV13 dc13 pm13 an13 cd13 ct13), sl13⟩)
    (c13 : PySem.W.codeIn K cd13 "_law_signs" = true)
    (k13 : PySem.W.keepIn K (.ref f13) = true)
    {f14 : Addr} {od14 an14 : Option Addr} {sl14 : Array (Option Value)} {oc14 kV14 dc14 pm14 cd14 ct14 : Value}
    (a14 : PySem.W.nsIn K mainGlobals "_law_nfa" = some (some (.ref f14)))
    (l14 : K.lookup f14 = some ⟨oc14, od14, .func (PySem.W.fnOf "_law_nfa" "_law_nfa" (defArgs s__law_nfa) (defBody s__law_nfa) (defScope s__law_nfa) .none kV14 dc14 pm14 an14 cd14 ct14), sl14⟩)
    (c14 : PySem.W.codeIn K cd14 "_law_nfa" = true)
    (k14 : PySem.W.keepIn K (.ref f14) = true)
    {f15 : Addr} {od15 an15 : Option Addr} {sl15 : Array (Option Value)} {oc15 kV15 dc15 pm15 cd15 ct15 : Value}
    (a15 : PySem.W.nsIn K mainGlobals "_law_listed" = some (some (.ref f15)))
    (l15 : K.lookup f15 = some ⟨oc15, od15, .func (PySem.W.fnOf "_law_listed" "_law_listed" (defArgs s__law_listed) (defBody s__law_listed) (defScope s__law_listed) .none kV15 dc15 pm15 an15 cd15 ct15), sl15⟩)
    (c15 : PySem.W.codeIn K cd15 "_law_listed" = true)
    (k15 : PySem.W.keepIn K (.ref f15) = true)
    {f16 : Addr} {od16 an16 : Option Addr} {sl16 : Array (Option Value)} {oc16 kV16 dc16 pm16 cd16 ct16 : Value}
    (a16 : PySem.W.nsIn K mainGlobals "_law_place" = some (some (.ref f16)))
    (l16 : K.lookup f16 = some ⟨oc16, od16, .func (PySem.W.fnOf "_law_place" "_law_place" (defArgs s__law_place) (defBody s__law_place) (defScope s__law_place) .none kV16 dc16 pm16 an16 cd16 ct16), sl16⟩)
    (c16 : PySem.W.codeIn K cd16 "_law_place" = true)
    (k16 : PySem.W.keepIn K (.ref f16) = true)
    {f17 : Addr} {od17 an17 : Option Addr} {sl17 : Array (Option Value)} {oc17 kV17 dc17 pm17 cd17 ct17 : Value}
    (a17 : PySem.W.nsIn K mainGlobals "_law_spoilt" = some (some (.ref f17)))
    (l17 : K.lookup f17 = some ⟨oc17, od17, .func (PySem.W.fnOf "_law_spoilt" "_law_spoilt" (defArgs s__law_spoilt) (defBody s__law_spoilt) (defScope s__law_spoilt) .none kV17 dc17 pm17 an17 cd17 ct17), sl17⟩)
    (c17 : PySem.W.codeIn K cd17 "_law_spoilt" = true)
    (k17 : PySem.W.keepIn K (.ref f17) = true)
    {f18 : Addr} {od18 an18 : Option Addr} {sl18 : Array (Option Value)} {oc18 kV18 dc18 pm18 cd18 ct18 : Value}
    (a18 : PySem.W.nsIn K mainGlobals "law" = some (some (.ref f18)))
    (l18 : K.lookup f18 = some ⟨oc18, od18, .func (PySem.W.fnOf "law" "law" (defArgs s_law) (defBody s_law) (defScope s_law) .none kV18 dc18 pm18 an18 cd18 ct18), sl18⟩)
    (c18 : PySem.W.codeIn K cd18 "law" = true)
    (k18 : PySem.W.keepIn K (.ref f18) = true)
    {CR : Addr}
    (gCR : PySem.W.nsIn K mainGlobals "ShrunkError" = some (some (.ref CR)))
    (tyCR : PySem.W.typeIn K (.ref CR) = some (.type "type"))
    (icCR : PySem.W.isClsIn K CR = true)
    {CT : Addr}
    (gCT : PySem.W.nsIn K mainGlobals "WrongThing" = some (some (.ref CT)))
    (tyCT : PySem.W.typeIn K (.ref CT) = some (.type "type"))
    (icCT : PySem.W.isClsIn K CT = true)
    {CI : Addr}
    (gCI : PySem.W.nsIn K mainGlobals "WrongItem" = some (some (.ref CI)))
    (tyCI : PySem.W.typeIn K (.ref CI) = some (.type "type"))
    (icCI : PySem.W.isClsIn K CI = true)
    {CS : Addr}
    (gCS : PySem.W.nsIn K mainGlobals "BadSigns" = some (some (.ref CS)))
    (tyCS : PySem.W.typeIn K (.ref CS) = some (.type "type"))
    (icCS : PySem.W.isClsIn K CS = true)
    {CA : Addr}
    (gCA : PySem.W.nsIn K mainGlobals "BadAutomaton" = some (some (.ref CA)))
    (tyCA : PySem.W.typeIn K (.ref CA) = some (.type "type"))
    (icCA : PySem.W.isClsIn K CA = true)
    {fI1 : Addr} {odI1 anI1 : Option Addr} {slI1 : Array (Option Value)} {ocI1 kVI1 dcI1 pmI1 cdI1 ctI1 : Value}
    (aI1 : PySem.W.findIn K (.ref CS) "__init__" = some (some (.ref fI1)))
    (tI1 : PySem.W.typeIn K (.ref fI1) = some (.type "function"))
    (lI1 : K.lookup fI1 = some ⟨ocI1, odI1, .func (PySem.W.fnOf "__init__" "WrongThing.__init__" (defArgs s_initT) (defBody s_initT) (defScope s_initT) .none kVI1 dcI1 pmI1 anI1 cdI1 ctI1), slI1⟩)
    (cI1 : PySem.W.codeIn K cdI1 "WrongThing.__init__" = true)
    (kI1 : PySem.W.keepIn K (.ref fI1) = true)
    {fI2 : Addr} {odI2 anI2 : Option Addr} {slI2 : Array (Option Value)} {ocI2 kVI2 dcI2 pmI2 cdI2 ctI2 : Value}
    (aI2 : PySem.W.findIn K (.ref CA) "__init__" = some (some (.ref fI2)))
    (tI2 : PySem.W.typeIn K (.ref fI2) = some (.type "function"))
    (lI2 : K.lookup fI2 = some ⟨ocI2, odI2, .func (PySem.W.fnOf "__init__" "WrongItem.__init__" (defArgs s_initI) (defBody s_initI) (defScope s_initI) .none kVI2 dcI2 pmI2 anI2 cdI2 ctI2), slI2⟩)
    (cI2 : PySem.W.codeIn K cdI2 "WrongItem.__init__" = true)
    (kI2 : PySem.W.keepIn K (.ref fI2) = true)
    {nmCS qCS : Str} {NCS : Addr} {bsCS bmCS : List Value} {snCS : List Str} {subCS : List Value} {abCS : Bool} {colCS : Option Bool} {ddCS : Option Addr} {m0CS m1CS m2CS m3CS m5CS : Option Value}
    (xCS : K.lookup CS = some (excClassObj nmCS qCS CS NCS bsCS bmCS true snCS subCS abCS colCS ddCS m0CS m1CS m2CS m3CS m5CS "ValueError.__new__"))
    (vCS : PySem.HandSPX.refsVE bmCS = true)
    (saCS : PySem.W.findIn K (.ref CS) "__setattr__" = some (some (.builtin "object.__setattr__")))
    (exCS : PySem.W.subIn K (.ref CS) (.type "BaseException") = some true)
    (kCCS : PySem.W.keepIn K (.ref CS) = true)
    (noCS : PySem.W.findIn K (.ref CS) "thing" = some none)
    (gaCS : PySem.W.findIn K (.ref CS) "__getattribute__" = some (some (.builtin "BaseException.__getattribute__")))
    (ggCS : PySem.W.findIn K (.ref CS) "__getattr__" = some none)
    (hdCS : PySem.W.hasDictIn K CS = true)
    (ssCS : PySem.W.subIn K (.ref CS) (.ref CS) = some true)
    (haCS : PySem.W.findIn K (.ref CS) "__class__" = some (some (.builtin "object.__class__")))
    (hnCS : PySem.W.specialIn K (.builtin "object.__class__") "__get__" = some (some (.builtin "getset_descriptor.__get__")))
    (htCS : PySem.W.takesIn K (.builtin "object.__class__") = some true)
    (hmCS : PySem.W.mroIn K CS (.type "object") = some true)
    {nmCA qCA : Str} {NCA : Addr} {bsCA bmCA : List Value} {snCA : List Str} {subCA : List Value} {abCA : Bool} {colCA : Option Bool} {ddCA : Option Addr} {m0CA m1CA m2CA m3CA m5CA : Option Value}
    (xCA : K.lookup CA = some (excClassObj nmCA qCA CA NCA bsCA bmCA true snCA subCA abCA colCA ddCA m0CA m1CA m2CA m3CA m5CA "ValueError.__new__"))
    (vCA : PySem.HandSPX.refsVE bmCA = true)
    (saCA : PySem.W.findIn K (.ref CA) "__setattr__" = some (some (.builtin "object.__setattr__")))
    (exCA : PySem.W.subIn K (.ref CA) (.type "BaseException") = some true)
    (kCCA : PySem.W.keepIn K (.ref CA) = true)
    (noCA : PySem.W.findIn K (.ref CA) "place" = some none)
    (gaCA : PySem.W.findIn K (.ref CA) "__getattribute__" = some (some (.builtin "BaseException.__getattribute__")))
    (ggCA : PySem.W.findIn K (.ref CA) "__getattr__" = some none)
    (hdCA : PySem.W.hasDictIn K CA = true)
    (ssCA : PySem.W.subIn K (.ref CA) (.ref CA) = some true)
    (haCA : PySem.W.findIn K (.ref CA) "__class__" = some (some (.builtin "object.__class__")))
    (hnCA : PySem.W.specialIn K (.builtin "object.__class__") "__get__" = some (some (.builtin "getset_descriptor.__get__")))
    (htCA : PySem.W.takesIn K (.builtin "object.__class__") = some true)
    (hmCA : PySem.W.mroIn K CA (.type "object") = some true)
    (uCACI : PySem.W.subIn K (.ref CA) (.ref CI) = some true)
    (uCACR : PySem.W.subIn K (.ref CA) (.ref CR) = some true)
    (uCACT : PySem.W.subIn K (.ref CA) (.ref CT) = some false)
    (uCSCT : PySem.W.subIn K (.ref CS) (.ref CT) = some true)
    (uCSCI : PySem.W.subIn K (.ref CS) (.ref CI) = some false)
    {tMOST_SIGNS : Tok}
    (nMOST_SIGNS : PySem.W.nsIn K mainGlobals "MOST_SIGNS" = some (some (.int 8 tMOST_SIGNS)))
    {tMOST_STATES : Tok}
    (nMOST_STATES : PySem.W.nsIn K mainGlobals "MOST_STATES" = some (some (.int 40 tMOST_STATES)))
    {tMOST_EDGES : Tok}
    (nMOST_EDGES : PySem.W.nsIn K mainGlobals "MOST_EDGES" = some (some (.int 400 tMOST_EDGES)))
    (z_int : PySem.W.nsIn K mainGlobals "int" = some none)
    (z_len : PySem.W.nsIn K mainGlobals "len" = some none)
    (z_range : PySem.W.nsIn K mainGlobals "range" = some none)
    (z_abs : PySem.W.nsIn K mainGlobals "abs" = some none)
    (z_max : PySem.W.nsIn K mainGlobals "max" = some none)
    (z_min : PySem.W.nsIn K mainGlobals "min" = some none)
    (z_tuple : PySem.W.nsIn K mainGlobals "tuple" = some none)
    (z_list : PySem.W.nsIn K mainGlobals "list" = some none)
    (z_str : PySem.W.nsIn K mainGlobals "str" = some none)
    (z_bool : PySem.W.nsIn K mainGlobals "bool" = some none)
    (z_sorted : PySem.W.nsIn K mainGlobals "sorted" = some none)
    (z_repr : PySem.W.nsIn K mainGlobals "repr" = some none)
    (z_isinstance : PySem.W.nsIn K mainGlobals "isinstance" = some none)
    (z_enumerate : PySem.W.nsIn K mainGlobals "enumerate" = some none)
    (z_all : PySem.W.nsIn K mainGlobals "all" = some none) :
    ∃ fd : FuncData, (∀ (s : Shared) (u : Value), BindsTo s fd ⟨[u], []⟩ [("_law_script", u)]) ∧ ∀ base : Heap, K.In base → base.Ns mainGlobals mg → Wp.FnTop l.prog w K mg base CX0 fa fd ["_law_script"] (spLaw K) := by
  have e := hfa.symm.trans (PySem.W.mg_of X G a18)
  cases e
  have F_is_whole := fun_mk (st := s_is_whole) l1 c1 k1
  have b_is_whole := F_is_whole.binds (ps := ["thing"]) fun _ _ _ _ _ _ us hl => match us, hl with | [_], _ => rfl
  have D_is_whole : Wp.Dh K mg "is_whole" f1 _ ["thing"] := ⟨PySem.W.mg_of X G a1, k1, b_is_whole⟩
  have F_is_row := fun_mk (st := s_is_row) l2 c2 k2
  have b_is_row := F_is_row.binds (ps := ["thing"]) fun _ _ _ _ _ _ us hl => match us, hl with | [_], _ => rfl
  have D_is_row : Wp.Dh K mg "is_row" f2 _ ["thing"] := ⟨PySem.W.mg_of X G a2, k2, b_is_row⟩
  have F_is_between := fun_mk (st := s_is_between) l3 c3 k3
  have b_is_between := F_is_between.binds (ps := ["thing", "low", "high"]) fun _ _ _ _ _ _ us hl => match us, hl with | [_, _, _], _ => rfl
  have D_is_between : Wp.Dh K mg "is_between" f3 _ ["thing", "low", "high"] := ⟨PySem.W.mg_of X G a3, k3, b_is_between⟩
  have F_is_text := fun_mk (st := s_is_text) l4 c4 k4
  have b_is_text := F_is_text.binds (ps := ["signs", "thing", "most"]) fun _ _ _ _ _ _ us hl => match us, hl with | [_, _, _], _ => rfl
  have D_is_text : Wp.Dh K mg "is_text" f4 _ ["signs", "thing", "most"] := ⟨PySem.W.mg_of X G a4, k4, b_is_text⟩
  have F_checked_signs := fun_mk (st := s_checked_signs) l5 c5 k5
  have b_checked_signs := F_checked_signs.binds (ps := ["thing"]) fun _ _ _ _ _ _ us hl => match us, hl with | [_], _ => rfl
  have D_checked_signs : Wp.Dh K mg "checked_signs" f5 _ ["thing"] := ⟨PySem.W.mg_of X G a5, k5, b_checked_signs⟩
  have F_is_edge := fun_mk (st := s_is_edge) l6 c6 k6
  have b_is_edge := F_is_edge.binds (ps := ["signs", "many", "thing"]) fun _ _ _ _ _ _ us hl => match us, hl with | [_, _, _], _ => rfl
  have D_is_edge : Wp.Dh K mg "is_edge" f6 _ ["signs", "many", "thing"] := ⟨PySem.W.mg_of X G a6, k6, b_is_edge⟩
  have F_automaton_of := fun_mk (st := s_automaton_of) l7 c7 k7
  have b_automaton_of := F_automaton_of.binds (ps := ["signs", "thing"]) fun _ _ _ _ _ _ us hl => match us, hl with | [_, _], _ => rfl
  have D_automaton_of : Wp.Dh K mg "automaton_of" f7 _ ["signs", "thing"] := ⟨PySem.W.mg_of X G a7, k7, b_automaton_of⟩
  have F_edges_of := fun_mk (st := s_edges_of) l8 c8 k8
  have b_edges_of := F_edges_of.binds (ps := ["signs", "many", "things"]) fun _ _ _ _ _ _ us hl => match us, hl with | [_, _, _], _ => rfl
  have D_edges_of : Wp.Dh K mg "edges_of" f8 _ ["signs", "many", "things"] := ⟨PySem.W.mg_of X G a8, k8, b_edges_of⟩
  have F_ends_of := fun_mk (st := s_ends_of) l9 c9 k9
  have b_ends_of := F_ends_of.binds (ps := ["many", "things", "shift"]) fun _ _ _ _ _ _ us hl => match us, hl with | [_, _, _], _ => rfl
  have D_ends_of : Wp.Dh K mg "ends_of" f9 _ ["many", "things", "shift"] := ⟨PySem.W.mg_of X G a9, k9, b_ends_of⟩
  have F_checked_automaton := fun_mk (st := s_checked_automaton) l10 c10 k10
  have b_checked_automaton := F_checked_automaton.binds (ps := ["signs", "thing"]) fun _ _ _ _ _ _ us hl => match us, hl with | [_, _], _ => rfl
  have D_checked_automaton : Wp.Dh K mg "checked_automaton" f10 _ ["signs", "thing"] := ⟨PySem.W.mg_of X G a10, k10, b_checked_automaton⟩
  have F__law_source := fun_mk (st := s__law_source) l11 c11 k11
  have b__law_source := F__law_source.binds (ps := ["_law_script", "_law_place_here"]) fun _ _ _ _ _ _ us hl => match us, hl with | [_, _], _ => rfl
  have D__law_source : Wp.Dh K mg "_law_source" f11 _ ["_law_script", "_law_place_here"] := ⟨PySem.W.mg_of X G a11, k11, b__law_source⟩
  have F__law_pick := fun_mk (st := s__law_pick) l12 c12 k12
  have b__law_pick := F__law_pick.binds (ps := ["_law_source_here", "_law_many"]) fun _ _ _ _ _ _ us hl => match us, hl with | [_, _], _ => rfl
  have D__law_pick : Wp.Dh K mg "_law_pick" f12 _ ["_law_source_here", "_law_many"] := ⟨PySem.W.mg_of X G a12, k12, b__law_pick⟩
  have F__law_signs := fun_mk (st := s__law_signs) l13 c13 k13
  have b__law_signs := F__law_signs.binds (ps := ["_law_source_here"]) fun _ _ _ _ _ _ us hl => match us, hl with | [_], _ => rfl
  have D__law_signs : Wp.Dh K mg "_law_signs" f13 _ ["_law_source_here"] := ⟨PySem.W.mg_of X G a13, k13, b__law_signs⟩
  have F__law_nfa := fun_mk (st := s__law_nfa) l14 c14 k14
  have b__law_nfa := F__law_nfa.binds (ps := ["_law_source_here", "_law_signs_here", "_law_most"]) fun _ _ _ _ _ _ us hl => match us, hl with | [_, _, _], _ => rfl
  have D__law_nfa : Wp.Dh K mg "_law_nfa" f14 _ ["_law_source_here", "_law_signs_here", "_law_most"] := ⟨PySem.W.mg_of X G a14, k14, b__law_nfa⟩
  have F__law_listed := fun_mk (st := s__law_listed) l15 c15 k15
  have b__law_listed := F__law_listed.binds (ps := ["_law_automaton"]) fun _ _ _ _ _ _ us hl => match us, hl with | [_], _ => rfl
  have D__law_listed : Wp.Dh K mg "_law_listed" f15 _ ["_law_automaton"] := ⟨PySem.W.mg_of X G a15, k15, b__law_listed⟩
  have F__law_place := fun_mk (st := s__law_place) l16 c16 k16
  have b__law_place := F__law_place.binds (ps := ["_law_signs_here", "_law_thing"]) fun _ _ _ _ _ _ us hl => match us, hl with | [_, _], _ => rfl
  have D__law_place : Wp.Dh K mg "_law_place" f16 _ ["_law_signs_here", "_law_thing"] := ⟨PySem.W.mg_of X G a16, k16, b__law_place⟩
  have F__law_spoilt := fun_mk (st := s__law_spoilt) l17 c17 k17
  have b__law_spoilt := F__law_spoilt.binds (ps := ["_law_source_here", "_law_signs_here", "_law_automaton"]) fun _ _ _ _ _ _ us hl => match us, hl with | [_, _, _], _ => rfl
  have D__law_spoilt : Wp.Dh K mg "_law_spoilt" f17 _ ["_law_source_here", "_law_signs_here", "_law_automaton"] := ⟨PySem.W.mg_of X G a17, k17, b__law_spoilt⟩
  have F_law := fun_mk (st := s_law) l18 c18 k18
  have b_law := F_law.binds (ps := ["_law_script"]) fun _ _ _ _ _ _ us hl => match us, hl with | [_], _ => rfl
  have k_ShrunkError : mg "ShrunkError" = some (.ref CR) := PySem.W.mg_of X G gCR
  have k_WrongThing : mg "WrongThing" = some (.ref CT) := PySem.W.mg_of X G gCT
  have k_WrongItem : mg "WrongItem" = some (.ref CI) := PySem.W.mg_of X G gCI
  have k_BadSigns : mg "BadSigns" = some (.ref CS) := PySem.W.mg_of X G gCS
  have k_BadAutomaton : mg "BadAutomaton" = some (.ref CA) := PySem.W.mg_of X G gCA
  have F_I1 := fun_mk (x := "__init__") (qual := "WrongThing.__init__") (st := s_initT) lI1 cI1 kI1
  have b_I1 := F_I1.binds (ps := ["self", "thing"]) fun _ _ _ _ _ _ us hl => match us, hl with | [_, _], _ => rfl
  have F_I2 := fun_mk (x := "__init__") (qual := "WrongItem.__init__") (st := s_initI) lI2 cI2 kI2
  have b_I2 := F_I2.binds (ps := ["self", "place"]) fun _ _ _ _ _ _ us hl => match us, hl with | [_, _], _ => rfl
  have O_BadSigns : OexC K CS := ⟨⟨_, _, _, _, _, _, _, _, _, _, _, _, _, _, _, xCS, vCS⟩, saCS, exCS, tyCS, kCCS⟩
  have T_BadSigns : Wp.ExT K mg "BadSigns" CS fI1 "thing" := ⟨O_BadSigns, k_BadSigns, aI1, tI1, noCS⟩
  have C_BadSigns : K01.Ca K mg "BadSigns" CS "thing" := ⟨k_BadSigns, Wp.exm_of exCS icCS tyCS ssCS, ⟨gaCS, ggCS, exCS, hdCS⟩, noCS, ⟨gaCS, ggCS, exCS, hdCS, haCS, hnCS, htCS, hmCS⟩⟩
  have O_BadAutomaton : OexC K CA := ⟨⟨_, _, _, _, _, _, _, _, _, _, _, _, _, _, _, xCA, vCA⟩, saCA, exCA, tyCA, kCCA⟩
  have T_BadAutomaton : Wp.ExT K mg "BadAutomaton" CA fI2 "place" := ⟨O_BadAutomaton, k_BadAutomaton, aI2, tI2, noCA⟩
  have C_BadAutomaton : K01.Ca K mg "BadAutomaton" CA "place" := ⟨k_BadAutomaton, Wp.exm_of exCA icCA tyCA ssCA, ⟨gaCA, ggCA, exCA, hdCA⟩, noCA, ⟨gaCA, ggCA, exCA, hdCA, haCA, hnCA, htCA, hmCA⟩⟩
  have iCACI := Wp.kit_of icCI tyCI uCACI ssCA
  have iCACR := Wp.kit_of icCR tyCR uCACR ssCA
  have iCACT := Wp.kit_of icCT tyCT uCACT ssCA
  have iCSCT := Wp.kit_of icCT tyCT uCSCT ssCS
  have iCSCI := Wp.kit_of icCI tyCI uCSCI ssCS
  have c_MOST_SIGNS : ∃ t, mg "MOST_SIGNS" = some (.int 8 t) := ⟨_, PySem.W.mg_of X G nMOST_SIGNS⟩
  have c_MOST_STATES : ∃ t, mg "MOST_STATES" = some (.int 40 t) := ⟨_, PySem.W.mg_of X G nMOST_STATES⟩
  have c_MOST_EDGES : ∃ t, mg "MOST_EDGES" = some (.int 400 t) := ⟨_, PySem.W.mg_of X G nMOST_EDGES⟩
  have B : Wp.Blt mg := { int := PySem.W.mg_none_of X G z_int, len := PySem.W.mg_none_of X G z_len, range := PySem.W.mg_none_of X G z_range, abs := PySem.W.mg_none_of X G z_abs, max := PySem.W.mg_none_of X G z_max, min := PySem.W.mg_none_of X G z_min, tuple := PySem.W.mg_none_of X G z_tuple, list := PySem.W.mg_none_of X G z_list, str := PySem.W.mg_none_of X G z_str, bool := PySem.W.mg_none_of X G z_bool, sorted := PySem.W.mg_none_of X G z_sorted, repr := PySem.W.mg_none_of X G z_repr, isinstance := PySem.W.mg_none_of X G z_isinstance, enumerate := PySem.W.mg_none_of X G z_enumerate, all := PySem.W.mg_none_of X G z_all }
  refine ⟨PySem.W.fnOf "law" "law" (defArgs s_law) (defBody s_law) (defScope s_law) .none kV18 dc18 pm18 an18 cd18 ct18, fun s u => .of_eq rfl, fun base _ _ => ?_⟩
  have GS := ok_initT (P := l.prog) (w := w) (mg := mg) (base := base) F_I1
  have GA := ok_initI (P := l.prog) (w := w) (mg := mg) (base := base) F_I2
  have G_is_whole := ok_whole (P := l.prog) (w := w) (mg := mg) (base := base) B F_is_whole
  have G_is_row := ok_row (P := l.prog) (w := w) (mg := mg) (base := base) B F_is_row
  have G_is_between := ok_between (P := l.prog) (w := w) (mg := mg) (base := base) B F_is_between D_is_whole G_is_whole
  have G_is_text := ok_text (P := l.prog) (w := w) (mg := mg) (base := base) B F_is_text
  have G_signs := ok_signed (P := l.prog) (w := w) (mg := mg) (base := base) B F_checked_signs T_BadSigns c_MOST_SIGNS GS b_I1
  have G_edge := ok_edge (P := l.prog) (w := w) (mg := mg) (base := base) B F_is_edge D_is_row G_is_row D_is_between G_is_between D_is_text G_is_text
  have G_edges := ok_edges (P := l.prog) (w := w) (mg := mg) (base := base) B F_edges_of D_is_edge G_edge T_BadAutomaton GA b_I2
  have G_ends := ok_ends (P := l.prog) (w := w) (mg := mg) (base := base) B F_ends_of D_is_between G_is_between T_BadAutomaton GA b_I2
  have G_auto := ok_auto (P := l.prog) (w := w) (mg := mg) (base := base) B c_MOST_STATES c_MOST_EDGES F_automaton_of D_is_row G_is_row D_is_between G_is_between D_edges_of G_edges D_ends_of G_ends T_BadAutomaton GA b_I2
  have G_checked := ok_checked (P := l.prog) (w := w) (mg := mg) (base := base) B F_checked_automaton D_checked_signs G_signs D_automaton_of G_auto
  have G_pick := ok_pick (P := l.prog) (w := w) (mg := mg) (base := base) B F__law_pick
  have G_source := ok_source (P := l.prog) (w := w) (mg := mg) (base := base) B F__law_source
  have G_lsigns := ok_signs (P := l.prog) (w := w) (mg := mg) (base := base) B F__law_signs D__law_pick G_pick
  have G_nfa := ok_nfa (P := l.prog) (w := w) (mg := mg) (base := base) B F__law_nfa D__law_pick G_pick
  have G_listed := ok_listed (P := l.prog) (w := w) (mg := mg) (base := base) B F__law_listed
  have G_place := ok_place (P := l.prog) (w := w) (mg := mg) (base := base) B F__law_place D_checked_automaton G_checked C_BadAutomaton k_WrongItem k_ShrunkError k_WrongThing iCACI iCACR iCACT
  have G_spoilt := ok_spoilt (P := l.prog) (w := w) (mg := mg) (base := base) B F__law_spoilt D__law_pick G_pick
  exact top_law (P := l.prog) (w := w) (mg := mg) (base := base) B F_law D__law_source G_source D__law_signs G_lsigns D__law_nfa G_nfa D__law_pick G_pick D_checked_automaton G_checked D__law_listed G_listed D__law_spoilt G_spoilt D__law_place G_place C_BadSigns k_WrongItem k_WrongThing iCSCT iCSCI
end
end K01
open PySem PySem.W PyProof.Rows
set_option maxHeartbeats 0 in
theorem PySem.Challenge.cw_shrunkalike_k01_automata_checked_holds : PySem.Challenge.rw_shrunkalike_k01_automata_checked.Holds := by
  w_on; o_law; k_head; (case hw => w_witness2)
  k_fill
  refine Wp.walk_top (l := PySem.Challenge.rw_shrunkalike_k01_automata_checked) (n := 63) (x := "_law_script") (CX := fun _ => L2.CX0) (sp := fun w => K01.spLaw _) rfl (by decide) rfl (fun w h Y => PySem.W.kIn_of Y) ?F (fun _ _ a ns hl hb _ hS => ⟨a, ns, rfl, hS, hl, hb, fun _ => rfl⟩) ?X
  case F =>
    intro w mg fa h KX G hmg
    refine' K01.all_mk KX G hmg ?a1 ?l1 ?c1 ?k1 ?a2 ?l2 ?c2 ?k2 ?a3 ?l3 ?c3 ?k3 ?a4 ?l4 ?c4 ?k4 ?a5 ?l5 ?c5 ?k5 ?a6 ?l6 ?c6 ?k6 ?a7 ?l7 ?c7 ?k7 ?a8 ?l8 ?c8 ?k8 ?a9 ?l9 ?c9 ?k9 ?a10 ?l10 ?c10 ?k10 ?a11 ?l11 ?c11 ?k11 ?a12 ?l12 ?c12 ?k12 ?a13 ?l13 ?c13 ?k13 ?a14 ?l14 ?c14 ?k14 ?a15 ?l15 ?c15 ?k15 ?a16 ?l16 ?c16 ?k16 ?a17 ?l17 ?c17 ?k17 ?a18 ?l18 ?c18 ?k18 ?gCR ?tyCR ?icCR ?gCT ?tyCT ?icCT ?gCI ?tyCI ?icCI ?gCS ?tyCS ?icCS ?gCA ?tyCA ?icCA ?aI1 ?tI1 ?lI1 ?cI1 ?kI1 ?aI2 ?tI2 ?lI2 ?cI2 ?kI2 ?xCS ?vCS ?saCS ?exCS ?kCCS ?noCS ?gaCS ?ggCS ?hdCS ?ssCS ?haCS ?hnCS ?htCS ?hmCS ?xCA ?vCA ?saCA ?exCA ?kCCA ?noCA ?gaCA ?ggCA ?hdCA ?ssCA ?haCA ?hnCA ?htCA ?hmCA ?uCACI ?uCACR ?uCACT ?uCSCT ?uCSCI ?nMOST_SIGNS ?nMOST_STATES ?nMOST_EDGES ?z_int ?z_len ?z_range ?z_abs ?z_max ?z_min ?z_tuple ?z_list ?z_str ?z_bool ?z_sorted ?z_repr ?z_isinstance ?z_enumerate ?z_all
    (case a1 => k_is)
    (case l1 => k_is)
    (case c1 => k_is)
    (case k1 => k_is)
    (case a2 => k_is)
    (case l2 => k_is)
    (case c2 => k_is)
    (case k2 => k_is)
    (case a3 => k_is)
    (case l3 => k_is)
    (case c3 => k_is)
    (case k3 => k_is)
    (case a4 => k_is)
    (case l4 => k_is)
    (case c4 => k_is)
    (case k4 => k_is)
    (case a5 => k_is)
    (case l5 => k_is)
    (case c5 => k_is)
    (case k5 => k_is)
    (case a6 => k_is)
    (case l6 => k_is)
    (case c6 => k_is)
    (case k6 => k_is)
    (case a7 => k_is)
    (case l7 => k_is)
    (case c7 => k_is)
    (case k7 => k_is)
    (case a8 => k_is)
    (case l8 => k_is)
    (case c8 => k_is)
    (case k8 => k_is)
    (case a9 => k_is)
    (case l9 => k_is)
    (case c9 => k_is)
    (case k9 => k_is)
    (case a10 => k_is)
    (case l10 => k_is)
    (case c10 => k_is)
    (case k10 => k_is)
    (case a11 => k_is)
    (case l11 => k_is)
    (case c11 => k_is)
    (case k11 => k_is)
    (case a12 => k_is)
    (case l12 => k_is)
    (case c12 => k_is)
    (case k12 => k_is)
    (case a13 => k_is)
    (case l13 => k_is)
    (case c13 => k_is)
    (case k13 => k_is)
    (case a14 => k_is)
    (case l14 => k_is)
    (case c14 => k_is)
    (case k14 => k_is)
    (case a15 => k_is)
    (case l15 => k_is)
    (case c15 => k_is)
    (case k15 => k_is)
    (case a16 => k_is)
    (case l16 => k_is)
    (case c16 => k_is)
    (case k16 => k_is)
    (case a17 => k_is)
    (case l17 => k_is)
    (case c17 => k_is)
    (case k17 => k_is)
    (case a18 => k_is)
    (case l18 => k_is)
    (case c18 => k_is)
    (case k18 => k_is)
    (case gCR => k_is)
    (case tyCR => k_is)
    (case icCR => k_is)
    (case gCT => k_is)
    (case tyCT => k_is)
    (case icCT => k_is)
    (case gCI => k_is)
    (case tyCI => k_is)
    (case icCI => k_is)
    (case gCS => k_is)
    (case tyCS => k_is)
    (case icCS => k_is)
    (case gCA => k_is)
    (case tyCA => k_is)
    (case icCA => k_is)
    (case aI1 => k_is)
    (case tI1 => k_is)
    (case lI1 => k_is)
    (case cI1 => k_is)
    (case kI1 => k_is)
    (case aI2 => k_is)
    (case tI2 => k_is)
    (case lI2 => k_is)
    (case cI2 => k_is)
    (case kI2 => k_is)
    (case xCS => k_is)
    (case vCS => decide +kernel)
    (case saCS => k_is)
    (case exCS => k_is)
    (case kCCS => k_is)
    (case noCS => k_is)
    (case gaCS => k_is)
    (case ggCS => k_is)
    (case hdCS => k_is)
    (case ssCS => k_is)
    (case haCS => k_is)
    (case hnCS => k_is)
    (case htCS => k_is)
    (case hmCS => k_is)
    (case xCA => k_is)
    (case vCA => decide +kernel)
    (case saCA => k_is)
    (case exCA => k_is)
    (case kCCA => k_is)
    (case noCA => k_is)
    (case gaCA => k_is)
    (case ggCA => k_is)
    (case hdCA => k_is)
    (case ssCA => k_is)
    (case haCA => k_is)
    (case hnCA => k_is)
    (case htCA => k_is)
    (case hmCA => k_is)
    (case uCACI => k_is)
    (case uCACR => k_is)
    (case uCACT => k_is)
    (case uCSCT => k_is)
    (case uCSCI => k_is)
    (case nMOST_SIGNS => k_is)
    (case nMOST_STATES => k_is)
    (case nMOST_EDGES => k_is)
    (case z_int => k_is)
    (case z_len => k_is)
    (case z_range => k_is)
    (case z_abs => k_is)
    (case z_max => k_is)
    (case z_min => k_is)
    (case z_tuple => k_is)
    (case z_list => k_is)
    (case z_str => k_is)
    (case z_bool => k_is)
    (case z_sorted => k_is)
    (case z_repr => k_is)
    (case z_isinstance => k_is)
    (case z_enumerate => k_is)
    (case z_all => k_is)
  case X =>
    exact fun _ _ _ _ _ h => h
