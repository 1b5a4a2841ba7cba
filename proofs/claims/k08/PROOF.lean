import PyProof.Rows.All
import Wide.All
import OpenK.AllK
import Wide.FinOn
import HandS.ForMost
import HandS.ForExc
import HandS.IsInst
import HandS.Deep
import HandS.StrMore
import HandS.SetKeys
import HandS.TupAny
import HandS.Style
import HandS.Evl
import HandS.Walk
import HandS.Wide
import KE.GoesMore
import KE.GoesEnum
import HandS.Strs
import HandS.Sort
import HandS.WordsDict
import HandS.More
import HandS.Dict
import HandS.Small
import HandS.TupLe
import HandS.Star
import PyProof.ReprLen
import PyProof.FitsInt
import HandS.Comp
import HandS.Exc
import HandS.ExcInit
import PyProof.ExcBaseAll.IndexError
import PyProof.ExcBaseAll.LookupError
import PyProof.ReprRoads
import PyProof.Rows.RegStrFacts
import PyProof.ExcBaseAll.OverflowError
import HandS.WordsExc
import HandS.ExcField
import HandS.FStr
import KE.KExcIs
import HandS.ExcIs
import HandS.DeepEq
import HandS.TupMul
import PySem.Challenge.RW_watchedrun_k08_trees_made
set_option Elab.async false
set_option linter.all false
set_option maxRecDepth 100000
set_option maxHeartbeats 4000000
namespace Wr
open PySem PySem.Spec PyProof.Rows L2 Evl

/-! ### heaps with some addresses hidden -/
def hid (b : List Addr) (H : Hp) : Hp := fun a => if a ∈ b then none else H a
def Kn (b : List Addr) (H : Hp) : Prop := ∀ a ∈ b, H a ≠ none
theorem hid_ne {b : List Addr} {H : Hp} {a : Addr} (h : a ∉ b) : hid b H a = H a := if_neg h
theorem hid_some {b : List Addr} {H : Hp} {a : Addr} {o : HO} (h : hid b H a = some o) : a ∉ b ∧ H a = some o := by
  unfold hid at h
  by_cases e : a ∈ b
  · rw [if_pos e] at h
    cases h
  · rw [if_neg e] at h
    exact ⟨e, h⟩
theorem hid_le {b : List Addr} {H : Hp} : Ex (hid b H) H := fun _ _ h => (hid_some h).2
theorem hid_ex {b : List Addr} {H H' : Hp} (e : Ex H H') : Ex (hid b H) (hid b H') := fun a o h => by
  obtain ⟨h1, h2⟩ := hid_some h
  rw [hid_ne h1]
  exact e a o h2
theorem Kn.up {b : List Addr} {H H' : Hp} (k : Kn b H) (e : Ex H H') : Kn b H' := fun a ha h => by
  have := k a ha
  cases q : H a with
  | none => exact this q
  | some o =>
    rw [e a o q] at h
    cases h
theorem Kn.new {b : List Addr} {H : Hp} (k : Kn b H) {p : Addr} (hp : H p = none) : p ∉ b := fun e => k p e hp

/-! ### data whose tuples are known to have no dict of their own -/
def TN (K : PySem.W.Frag) (H : Hp) (a : Addr) : Prop := (∃ o u, H a = some (.frz o u) ∧ o.dict = none) ∨ ∃ o, K.lookup a = some o ∧ o.cls = .type "tuple" ∧ o.dict = none
theorem TN.ex {K : PySem.W.Frag} {H H' : Hp} {a : Addr} (e : Ex H H') (h : TN K H a) : TN K H' a := by
  rcases h with ⟨o, u, h1, h2⟩ | h
  · exact .inl ⟨o, u, e _ _ h1, h2⟩
  · exact .inr h
mutual
inductive Dd (K : PySem.W.Frag) (H : Hp) : V → PyData → Prop
  | non : Dd K H .non .none
  | bl (b : Bool) : Dd K H (.bl b) (.bool b)
  | int (i : Int) : Dd K H (.int i) (.int i)
  | str (x : Str) : Dd K H (.str x) (.str x)
  | lst {a : Addr} {xs : List V} {ds : List PyData} : SqL K H a xs → DdAll K H xs ds → Dd K H (.ref a) (.list ds)
  | tup {a : Addr} {xs : List V} {ds : List PyData} : SqT K H a xs → TN K H a → DdAll K H xs ds → Dd K H (.ref a) (.tuple ds)
inductive DdAll (K : PySem.W.Frag) (H : Hp) : List V → List PyData → Prop
  | nil : DdAll K H [] []
  | cons {v : V} {vs : List V} {d : PyData} {ds : List PyData} : Dd K H v d → DdAll K H vs ds → DdAll K H (v :: vs) (d :: ds)
end
mutual
theorem dd_dp {K : PySem.W.Frag} {H : Hp} : ∀ (d : PyData) (v : V), Dd K H v d → Dp K H v d
  | .none, _, h => by cases h; exact .non
  | .bool b, _, h => by cases h; exact .bl b
  | .int i, _, h => by cases h; exact .int i
  | .str x, _, h => by cases h; exact .str x
  | .list ds, _, h => by
    cases h with
    | lst hs ha => exact .lst hs (dds_dp ds _ ha)
  | .tuple ds, _, h => by
    cases h with
    | tup hs _ ha => exact .tup hs (dds_dp ds _ ha)
  | .dict _, _, h => by cases h
theorem dds_dp {K : PySem.W.Frag} {H : Hp} : ∀ (ds : List PyData) (vs : List V), DdAll K H vs ds → DpAll K H vs ds
  | [], _, h => by cases h; exact .nil
  | d :: ds, _, h => by
    cases h with
    | cons h1 h2 => exact .cons (dd_dp d _ h1) (dds_dp ds _ h2)
end
/-! ### data stay where the heap grows -/
mutual
theorem dp_ex {K : PySem.W.Frag} {H H' : Hp} (e : Ex H H') : ∀ (d : PyData) (v : V), Dd K H v d → Dd K H' v d
  | .none, _, h => by cases h; exact .non
  | .bool b, _, h => by cases h; exact .bl b
  | .int i, _, h => by cases h; exact .int i
  | .str x, _, h => by cases h; exact .str x
  | .list ds, _, h => by
    cases h with
    | lst hs ha => exact .lst (ex_l e hs) (dps_ex e ds _ ha)
  | .tuple ds, _, h => by
    cases h with
    | tup hs hn ha => exact .tup (ex_t e hs) (hn.ex e) (dps_ex e ds _ ha)
  | .dict _, _, h => by cases h
theorem dps_ex {K : PySem.W.Frag} {H H' : Hp} (e : Ex H H') : ∀ (ds : List PyData) (vs : List V), DdAll K H vs ds → DdAll K H' vs ds
  | [], _, h => by cases h; exact .nil
  | d :: ds, _, h => by
    cases h with
    | cons h1 h2 => exact .cons (dp_ex e d _ h1) (dps_ex e ds _ h2)
end
abbrev Dq (K : PySem.W.Frag) (b : List Addr) (H : Hp) (v : V) (d : PyData) : Prop := Dd K (hid b H) v d
abbrev DqAll (K : PySem.W.Frag) (b : List Addr) (H : Hp) (vs : List V) (ds : List PyData) : Prop := DdAll K (hid b H) vs ds
section
variable {K : PySem.W.Frag} {b : List Addr} {H H' H1 H2 : Hp} {v : V} {vs : List V} {d e : PyData} {ds : List PyData}
theorem Dq.up (h : Dq K b H v d) (e : Ex H H') : Dq K b H' v d := dp_ex (hid_ex e) d v h
theorem DqAll.up (h : DqAll K b H vs ds) (e : Ex H H') : DqAll K b H' vs ds := dps_ex (hid_ex e) ds vs h
theorem Dq.dd (h : Dq K b H v d) : Dd K H v d := dp_ex hid_le d v h
theorem Dq.dp (h : Dq K b H v d) : Dp K H v d := dd_dp d v h.dd
theorem DqAll.dd (h : DqAll K b H vs ds) : DdAll K H vs ds := dps_ex hid_le ds vs h
theorem dps_len : ∀ {vs : List V} {ds : List PyData} {H : Hp}, DdAll K H vs ds → vs.length = ds.length
  | _, [], _, h => by cases h; rfl
  | _, d :: ds, _, h => by
    cases h with
    | cons h1 h2 => rw [List.length_cons, List.length_cons, dps_len h2]
theorem dps_get : ∀ {vs : List V} {ds : List PyData} {H : Hp} {i : Nat} {d : PyData}, DdAll K H vs ds → ds[i]? = some d → ∃ v, vs[i]? = some v ∧ Dd K H v d
  | _, [], _, i, d, h, e => by simp at e
  | _, x :: ds, _, 0, d, h, e => by
    cases h with
    | cons h1 h2 =>
      have e1 : x = d := Option.some.inj e
      subst e1
      exact ⟨_, rfl, h1⟩
  | _, x :: ds, _, i + 1, d, h, e => by
    cases h with
    | cons h1 h2 =>
      obtain ⟨v, q1, q2⟩ := dps_get h2 (i := i) e
      exact ⟨v, q1, q2⟩
theorem dps_at : ∀ {vs : List V} {ds : List PyData} {H : Hp} {i : Nat} {v : V}, DdAll K H vs ds → vs[i]? = some v → ∃ d, ds[i]? = some d ∧ Dd K H v d
  | _, [], _, i, v, h, e => by cases h; simp at e
  | _, x :: ds, _, 0, v, h, e => by
    cases h with
    | cons h1 h2 =>
      have e1 := Option.some.inj e
      subst e1
      exact ⟨_, rfl, h1⟩
  | _, x :: ds, _, i + 1, v, h, e => by
    cases h with
    | cons h1 h2 =>
      obtain ⟨d, q1, q2⟩ := dps_at h2 (i := i) e
      exact ⟨d, q1, q2⟩
theorem dps_app : ∀ {vs ws : List V} {ds es : List PyData} {H : Hp}, DdAll K H vs ds → DdAll K H ws es → DdAll K H (vs ++ ws) (ds ++ es)
  | _, _, [], _, _, h, h' => by cases h; exact h'
  | _, _, x :: ds, _, _, h, h' => by
    cases h with
    | cons h1 h2 => exact .cons h1 (dps_app h2 h')
theorem dps_drop : ∀ {vs : List V} {ds : List PyData} {H : Hp} (n : Nat), DdAll K H vs ds → DdAll K H (vs.drop n) (ds.drop n)
  | _, _, _, 0, h => h
  | _, [], _, n + 1, h => by cases h; exact .nil
  | _, x :: ds, _, n + 1, h => by
    cases h with
    | cons h1 h2 => exact dps_drop n h2
theorem dps_take : ∀ {vs : List V} {ds : List PyData} {H : Hp} (n : Nat), DdAll K H vs ds → DdAll K H (vs.take n) (ds.take n)
  | _, _, _, 0, h => .nil
  | _, [], _, n + 1, h => by cases h; exact .nil
  | _, x :: ds, _, n + 1, h => by
    cases h with
    | cons h1 h2 => exact .cons h1 (dps_take n h2)
/-- texts are texts -/
theorem dps_strs : ∀ {vs : List V} {xs : List Str} {H : Hp}, DdAll K H vs (xs.map PyData.str) → vs = xs.map V.str
  | _, [], _, h => by cases h; rfl
  | _, x :: xs, _, h => by
    cases h with
    | cons h1 h2 =>
      cases h1
      rw [dps_strs h2]
      rfl
theorem strs_dps : ∀ (xs : List Str) {H : Hp}, DdAll K H (xs.map V.str) (xs.map PyData.str)
  | [], _ => .nil
  | x :: xs, _ => .cons (.str x) (strs_dps xs)
theorem dps_bls : ∀ {vs : List V} {xs : List Bool} {H : Hp}, DdAll K H vs (xs.map PyData.bool) → vs = xs.map V.bl
  | _, [], _, h => by cases h; rfl
  | _, x :: xs, _, h => by
    cases h with
    | cons h1 h2 =>
      cases h1
      rw [dps_bls h2]
      rfl
end
/-- a new object at p keeps what is hidden hidden -/
theorem hid_new {b : List Addr} {H : Hp} {p : Addr} {o : HO} (h : p ∉ b) : hid b (upd H p o) p = some o := by
  rw [hid_ne h, upd_same]
end Wr

set_option Elab.async false
set_option linter.all false
set_option maxRecDepth 100000
set_option maxHeartbeats 4000000
namespace Wr
open PySem PySem.Spec PyProof.Rows L2 Evl

/-! ### what evaluates to which datum -/
section
variable (K : PySem.W.Frag) (b : List Addr)
def ED (te : TE) (σ : L2.St) (H : Hp) (d : PyData) : Prop := ∀ H1, Ex H H1 → ∀ Q : VK, (∀ v H2, Ex H1 H2 → Dq K b H2 v d → Q v H2) → te σ H1 Q
def EA (ta : TA) (σ : L2.St) (H : Hp) (ds : List PyData) : Prop := ∀ H1, Ex H H1 → ∀ Q : List V → Hp → Prop, (∀ vs H2, Ex H1 H2 → DqAll K b H2 vs ds → Q vs H2) → ta σ H1 Q
def SR (ts : TS) (σ : L2.St) (H : Hp) (d : PyData) : Prop := ∀ H1, Ex H H1 → ∀ D : Ends, (∀ v H2, Ex H1 H2 → Dq K b H2 v d → D.rt v H2) → ts D σ H1
end
/-- a pure def: data in, a datum out, all that stood stands -/
def spP (K : PySem.W.Frag) (pre : List PyData → Prop) (f : List PyData → PyData) : Sp := fun vs H Q _ =>
  ∃ b ds, Kn b H ∧ DqAll K b H vs ds ∧ pre ds ∧ ∀ v H', Ex H H' → Dq K b H' v (f ds) → Q v H'
section
variable {K : PySem.W.Frag} {b : List Addr} {σ : L2.St} {H H' : Hp} {ta tb tc te : TE} {t : TA} {tt : TT} {ts t1 t2 : TS} {d e : PyData} {ds : List PyData} {v : V}
theorem ED.mono (x : Ex H H') (h : ED K b te σ H d) : ED K b te σ H' d := fun H1 a Q q => h H1 (x.trans a) Q q
theorem EA.mono (x : Ex H H') (h : EA K b t σ H ds) : EA K b t σ H' ds := fun H1 a Q q => h H1 (x.trans a) Q q
theorem SR.mono (x : Ex H H') (h : SR K b ts σ H d) : SR K b ts σ H' d := fun H1 a Q q => h H1 (x.trans a) Q q
theorem ED.to (h : ED K b te σ H d) (x : d = e) : ED K b te σ H e := x ▸ h
theorem SR.to (h : SR K b ts σ H d) (x : d = e) : SR K b ts σ H e := x ▸ h
theorem ed_var {i : Nat} (h : σ[i]? = some (some v)) (hd : Dq K b H v d) : ED K b (tVar i) σ H d := fun H1 x _ q => ⟨v, h, q v H1 (Ex.refl H1) (hd.up x)⟩
theorem ed_c (hd : Dq K b H v d) : ED K b (tC v) σ H d := fun H1 x _ q => q v H1 (Ex.refl H1) (hd.up x)
theorem ed_int {i : Int} : ED K b (tC (.int i)) σ H (.int i) := ed_c (.int i)
theorem ed_str {x : Str} : ED K b (tC (.str x)) σ H (.str x) := ed_c (.str x)
theorem ed_bl {x : Bool} : ED K b (tC (.bl x)) σ H (.bool x) := ed_c (.bl x)
theorem ed_non : ED K b (tC .non) σ H .none := ed_c .non
/-- two operands, then an operation on data -/
theorem ed_op {r : R2} {z : PyData} (ha : ED K b ta σ H d) (hb : ED K b tb σ H e) (hr : ∀ H1 x y (Q : VK), Ex H H1 → Dq K b H1 x d → Dq K b H1 y e → (∀ v H2, Ex H1 H2 → Dq K b H2 v z → Q v H2) → r x y H1 Q) : ED K b (tOp r ta tb) σ H z :=
  fun H1 x1 Q q => ha H1 x1 _ fun x H2 x2 hx => hb H2 (x1.trans x2) _ fun y H3 x3 hy =>
    hr H3 x y Q ((x1.trans x2).trans x3) (hx.up x3) hy fun v H4 x4 hv => q v H4 ((x2.trans x3).trans x4) hv
theorem ed_eq (ha : ED K b ta σ H d) (hb : ED K b tb σ H e) (sd : SeqAt.shaped d = true) (se : SeqAt.shaped e = true) : ED K b (tOp (rEqD K) ta tb) σ H (.bool (PyData.eqv d e)) :=
  ed_op ha hb fun H1 x y Q _ hx hy q => ⟨d, e, hx.dp, hy.dp, sd, se, q _ H1 (Ex.refl H1) (.bl _)⟩
theorem ed_ne (ha : ED K b ta σ H d) (hb : ED K b tb σ H e) (sd : SeqAt.shaped d = true) (se : SeqAt.shaped e = true) : ED K b (tOp (rNeD K) ta tb) σ H (.bool (!PyData.eqv d e)) :=
  ed_op ha hb fun H1 x y Q _ hx hy q => ⟨d, e, hx.dp, hy.dp, sd, se, q _ H1 (Ex.refl H1) (.bl _)⟩
theorem dq_int {i : Int} (h : Dq K b H v (.int i)) : v = .int i := by cases h; rfl
theorem dq_bl {i : Bool} (h : Dq K b H v (.bool i)) : v = .bl i := by cases h; rfl
theorem dq_str {i : Str} (h : Dq K b H v (.str i)) : v = .str i := by cases h; rfl
theorem ed_I0 {g : Int → Int → V} {i j : Int} {z : PyData} (ha : ED K b ta σ H (.int i)) (hb : ED K b tb σ H (.int j)) (hz : ∀ H', Dq K b H' (g i j) z) : ED K b (tOp (rI0 g) ta tb) σ H z :=
  ed_op ha hb fun H1 x y Q _ hx hy q => ⟨i, j, dq_int hx, dq_int hy, q _ H1 (Ex.refl H1) (hz _)⟩
theorem ed_I {C : Int → Int → Prop} {g : Int → Int → V} {i j : Int} {z : PyData} (ha : ED K b ta σ H (.int i)) (hb : ED K b tb σ H (.int j)) (hc : C i j) (hz : ∀ H', Dq K b H' (g i j) z) : ED K b (tOp (rI C g) ta tb) σ H z :=
  ed_op ha hb fun H1 x y Q _ hx hy q => ⟨i, j, dq_int hx, dq_int hy, hc, q _ H1 (Ex.refl H1) (hz _)⟩
theorem ed_lt {i j : Int} (ha : ED K b ta σ H (.int i)) (hb : ED K b tb σ H (.int j)) : ED K b (tOp (rI0 fun i j => .bl (decide (i < j))) ta tb) σ H (.bool (decide (i < j))) := ed_I0 ha hb fun _ => .bl _
theorem ed_le {i j : Int} (ha : ED K b ta σ H (.int i)) (hb : ED K b tb σ H (.int j)) : ED K b (tOp (rI0 fun i j => .bl (decide (i ≤ j))) ta tb) σ H (.bool (decide (i ≤ j))) := ed_I0 ha hb fun _ => .bl _
theorem ed_gt {i j : Int} (ha : ED K b ta σ H (.int i)) (hb : ED K b tb σ H (.int j)) : ED K b (tOp (rI0 fun i j => .bl (decide (j < i))) ta tb) σ H (.bool (decide (j < i))) := ed_I0 ha hb fun _ => .bl _
theorem ed_ge {i j : Int} (ha : ED K b ta σ H (.int i)) (hb : ED K b tb σ H (.int j)) : ED K b (tOp (rI0 fun i j => .bl (decide (j ≤ i))) ta tb) σ H (.bool (decide (j ≤ i))) := ed_I0 ha hb fun _ => .bl _
theorem ed_add {i j : Int} (ha : ED K b ta σ H (.int i)) (hb : ED K b tb σ H (.int j)) : ED K b (tOp (rI0 fun i j => .int (i + j)) ta tb) σ H (.int (i + j)) := ed_I0 ha hb fun _ => .int _
theorem ed_sub {i j : Int} (ha : ED K b ta σ H (.int i)) (hb : ED K b tb σ H (.int j)) : ED K b (tOp (rI0 fun i j => .int (i - j)) ta tb) σ H (.int (i - j)) := ed_I0 ha hb fun _ => .int _
theorem ed_neg {i : Int} (ha : ED K b ta σ H (.int i)) : ED K b (tUn (rU fun i => .int (-i)) ta) σ H (.int (-i)) := fun H1 x1 Q q =>
  ha H1 x1 _ fun x H2 x2 hx => ⟨i, dq_int hx, q _ H2 x2 (.int _)⟩
/-- a chain of two comparisons of ints -/
theorem ed_chain {g g' : Int → Int → Bool} {i j k : Int} (ha : ED K b ta σ H (.int i)) (hb : ED K b tb σ H (.int j)) (hc : ED K b tc σ H (.int k)) :
    ED K b (tChain (rI0 fun i j => .bl (g i j)) (rI0 fun i j => .bl (g' i j)) ta tb tc) σ H (.bool (g i j && g' j k)) := fun H1 x1 Q q =>
  ha H1 x1 _ fun x H2 x2 hx => hb H2 (x1.trans x2) _ fun y H3 x3 hy => ⟨i, j, dq_int hx, dq_int hy, g i j, rfl, by
    cases hg : g i j with
    | false =>
      rw [if_neg Bool.false_ne_true]
      rw [hg] at q
      exact q _ H3 (x2.trans x3) (.bl _)
    | true =>
      rw [if_pos rfl]
      rw [hg] at q
      exact hc H3 ((x1.trans x2).trans x3) _ fun z H4 x4 hz => ⟨j, k, dq_int hy, dq_int hz, q _ H4 ((x2.trans x3).trans x4) (.bl _)⟩⟩
theorem ed_and {c : Bool} (ha : ED K b ta σ H (.bool c)) (hb : c = true → ED K b tb σ H d) : ED K b (tAndV ta tb) σ H (if c = true then d else .bool false) := fun H1 x1 Q q =>
  ha H1 x1 _ fun x H2 x2 hx => ⟨c, dq_bl hx, by
    cases c with
    | false =>
      rw [if_neg Bool.false_ne_true]
      rw [if_neg Bool.false_ne_true] at q
      exact q _ H2 x2 (.bl _)
    | true =>
      rw [if_pos rfl]
      rw [if_pos rfl] at q
      exact hb rfl H2 (x1.trans x2) _ fun z H4 x4 hz => q _ H4 (x2.trans x4) hz⟩
theorem ed_or {c : Bool} (ha : ED K b ta σ H (.bool c)) (hb : c = false → ED K b tb σ H d) : ED K b (tOrV ta tb) σ H (if c = true then .bool true else d) := fun H1 x1 Q q =>
  ha H1 x1 _ fun x H2 x2 hx => ⟨c, dq_bl hx, by
    cases c with
    | true =>
      rw [if_pos rfl]
      rw [if_pos rfl] at q
      exact q _ H2 x2 (.bl _)
    | false =>
      rw [if_neg Bool.false_ne_true]
      rw [if_neg Bool.false_ne_true] at q
      exact hb rfl H2 (x1.trans x2) _ fun z H4 x4 hz => q _ H4 (x2.trans x4) hz⟩
/-- and, or of truths -/
theorem ed_andB {c k : Bool} (ha : ED K b ta σ H (.bool c)) (hb : c = true → ED K b tb σ H (.bool k)) : ED K b (tAndV ta tb) σ H (.bool (c && k)) := (ed_and ha hb).to (by cases c <;> rfl)
theorem ed_orB {c k : Bool} (ha : ED K b ta σ H (.bool c)) (hb : c = false → ED K b tb σ H (.bool k)) : ED K b (tOrV ta tb) σ H (.bool (c || k)) := (ed_or ha hb).to (by cases c <;> rfl)
theorem ed_not {c : Bool} (ha : ED K b ta σ H (.bool c)) : ED K b (tNotV ta) σ H (.bool (!c)) := fun H1 x1 Q q =>
  ha H1 x1 _ fun x H2 x2 hx => ⟨c, dq_bl hx, q _ H2 x2 (.bl _)⟩
theorem et_t {c : Bool} (h : ED K b te σ H (.bool c)) : EvT (tTest te) σ H c := fun H1 x Q q => h H1 x _ fun v H2 x2 hv => ⟨c, dq_bl hv, q H2 x2⟩
theorem et_b {c : Bool} (h : ED K b te σ H (.bool c)) : EvT (tB te) σ H c := fun H1 x Q q => h H1 x _ fun v H2 x2 hv => ⟨c, dq_bl hv, q H2 x2⟩
theorem ed_if {c : Bool} (hc : EvT tt σ H c) (ha : c = true → ED K b ta σ H d) (hb : c = false → ED K b tb σ H e) : ED K b (tIf tt ta tb) σ H (if c = true then d else e) := fun H1 x1 Q q =>
  hc H1 x1 _ fun H2 x2 => by
    cases c with
    | true =>
      rw [if_pos rfl]
      rw [if_pos rfl] at q
      exact ha rfl H2 (x1.trans x2) _ fun z H4 x4 hz => q _ H4 (x2.trans x4) hz
    | false =>
      rw [if_neg Bool.false_ne_true]
      rw [if_neg Bool.false_ne_true] at q
      exact hb rfl H2 (x1.trans x2) _ fun z H4 x4 hz => q _ H4 (x2.trans x4) hz
/-! ### arguments, calls -/
theorem ea_nil : EA K b tNil σ H [] := fun H1 x Q q => q [] H1 (Ex.refl H1) .nil
theorem ea_cons (ha : ED K b ta σ H d) (hr : EA K b t σ H ds) : EA K b (tCons ta t) σ H (d :: ds) := fun H1 x1 Q q =>
  ha H1 x1 _ fun x H2 x2 hx => hr H2 (x1.trans x2) _ fun xs H3 x3 hxs => q _ H3 (x2.trans x3) (.cons (hx.up x3) hxs)
theorem ed_call {pre : List PyData → Prop} {f : List PyData → PyData} {E : XK} (kn : Kn b H) (ha : EA K b t σ H ds) (hp : pre ds) : ED K b (tCall (spP K pre f) [] E t) σ H (f ds) := fun H1 x1 Q q =>
  ha H1 x1 _ fun vs H2 x2 hvs => ⟨b, ds, kn.up (x1.trans x2), by rw [List.append_nil]; exact hvs, hp, fun v H3 x3 hv => q v H3 (x2.trans x3) hv⟩
/-! ### blocks -/
theorem sr_ret (h : ED K b te σ H d) : SR K b (tRet te) σ H d := fun H1 x D q => h H1 x _ fun v H2 x2 hv => q v H2 x2 hv
theorem sr_if {c : Bool} (hc : EvT tt σ H c) (h1 : c = true → SR K b t1 σ H d) (h2 : c = false → SR K b t2 σ H e) : SR K b (tSeq (tIfS tt t1 tNext) t2) σ H (if c = true then d else e) := fun H1 x1 D q =>
  hc H1 x1 _ fun H2 x2 => by
    cases c with
    | true =>
      rw [if_pos rfl]
      rw [if_pos rfl] at q
      exact h1 rfl H2 (x1.trans x2) _ fun z H4 x4 hz => q _ H4 (x2.trans x4) hz
    | false =>
      rw [if_neg Bool.false_ne_true]
      rw [if_neg Bool.false_ne_true] at q
      exact h2 rfl H2 (x1.trans x2) _ fun z H4 x4 hz => q _ H4 (x2.trans x4) hz
theorem sr_set {i : Nat} (h : ED K b te σ H e) (k : ∀ v H', Ex H H' → Dq K b H' v e → SR K b ts (σ.set i (some v)) H' d) : SR K b (tSeq (tAsg te (gName i)) ts) σ H d := fun H1 x1 D q =>
  h H1 x1 _ fun v H2 x2 hv => k v H2 (x1.trans x2) hv H2 (Ex.refl H2) D fun z H4 x4 hz => q _ H4 (x2.trans x4) hz
/-- the def's own end -/
theorem SR.fin {D : Ends} (h : SR K b ts σ H d) (q : ∀ v H', Ex H H' → Dq K b H' v d → D.rt v H') : ts D σ H := h H (Ex.refl H) D q
end
/-! ### kinds -/
def dTy : PyData → String
  | .none => "NoneType"
  | .bool _ => "bool"
  | .int _ => "int"
  | .str _ => "str"
  | .list _ => "list"
  | .tuple _ => "tuple"
  | .dict _ => "dict"
def tyIs (t T : String) : Bool := t == T || (t == "bool" && T == "int")
def isD (T : String) (d : PyData) : Bool := tyIs (dTy d) T
theorem dp_ty {K : PySem.W.Frag} {H : Hp} {v : V} {d : PyData} (h : Dp K H v d) : TyX K H v (.type (dTy d)) := by
  cases h with
  | non => exact .base .non
  | bl b => exact .base (.bl b)
  | int i => exact .base (.int i)
  | str x => exact .base (.str x)
  | lst hs _ =>
    rcases hs with (h | ⟨o, h⟩) | ⟨o, _, _, h1, h2, _⟩
    · exact .base (.lst h)
    · exact .base (.frz h)
    · exact .kList h1 h2
  | tup hs _ =>
    rcases hs with (h | ⟨o, h⟩) | ⟨o, _, _, h1, h2, _⟩
    · exact .base (.tup h)
    · exact .fTuple h
    · exact .kTuple h1 h2
def KindT (T : String) : Prop := T = "int" ∨ T = "bool" ∨ T = "str" ∨ T = "tuple" ∨ T = "list"
theorem kit_all : (["NoneType", "bool", "int", "str", "list", "tuple"].all fun t => ["int", "bool", "str", "tuple", "list"].all fun T => decide (kitB t T = some (tyIs t T))) = true := by decide +kernel
theorem kit_at {t T : String} (ht : t ∈ ["NoneType", "bool", "int", "str", "list", "tuple"]) (hT : T ∈ ["int", "bool", "str", "tuple", "list"]) : kitB t T = some (tyIs t T) :=
  of_decide_eq_true (List.all_eq_true.mp (List.all_eq_true.mp kit_all t ht) T hT)
theorem dp_kit {K : PySem.W.Frag} {H : Hp} {v : V} {d : PyData} (h : Dp K H v d) {T : String} (hT : KindT T) : PySem.W.kitOne K (.type (dTy d)) (.type T) = some (isD T d) := by
  refine kit_ty (kit_at ?_ ?_)
  · cases h <;> simp [dTy]
  · rcases hT with rfl | rfl | rfl | rfl | rfl <;> simp
section
variable {K : PySem.W.Frag} {b : List Addr} {σ : L2.St} {H H' : Hp} {ta tb : TE} {d e : PyData} {ds : List PyData} {v : V}
theorem ed_isi {T : String} (hT : KindT T) (ha : ED K b ta σ H d) : ED K b (tCB (rIsi K) (tCons ta (tCons (tC (.ty T)) tNil))) σ H (.bool (isD T d)) := fun H1 x1 Q q =>
  ha H1 x1 _ fun x H2 x2 hx => ⟨x, .ty T, .type (dTy d), .type T, isD T d, rfl, .ty T, dp_ty hx.dp, dp_kit hx.dp hT, q _ H2 x2 (.bl _)⟩
/-! ### len -/
def lenD : PyData → Nat
  | .str x => x.length
  | .list xs => xs.length
  | .tuple xs => xs.length
  | _ => 0
def rLen (K : PySem.W.Frag) : List V → Hp → VK → Prop := fun xs H Q => ∃ x n, xs = [x] ∧ LenV K x H n ∧ Q (.int n) H
theorem call_lenD1 {X : Cx} : CallR X (.builtin "len") (rLen X.K) := call_len
theorem ed_len (ha : ED K b ta σ H d) (hk : isD "str" d = true ∨ isD "list" d = true ∨ isD "tuple" d = true) (hs : ∀ x, d = .str x → x.length ≤ sizeLine) : ED K b (tCB (rLen K) (tCons ta tNil)) σ H (.int (lenD d)) := fun H1 x1 Q q =>
  ha H1 x1 _ fun x H2 x2 hx => by
    refine ⟨x, lenD d, rfl, ?_, q _ H2 x2 (.int _)⟩
    have hx' := hx.dd
    cases hx' with
    | str y => exact ⟨hs y rfl, rfl⟩
    | lst h1 h2 => exact Or.inl ⟨_, h1, (dps_len h2).symm⟩
    | tup h1 _ h2 => exact Or.inr ⟨_, h1, (dps_len h2).symm⟩
    | non => rcases hk with h | h | h <;> exact absurd h (by show ¬ tyIs "NoneType" _ = true; decide)
    | bl c => rcases hk with h | h | h <;> exact absurd h (by show ¬ tyIs "bool" _ = true; decide)
    | int c => rcases hk with h | h | h <;> exact absurd h (by show ¬ tyIs "int" _ = true; decide)
/-! ### items -/
theorem dps_atI {H : Hp} {vs : List V} {ds : List PyData} {i : Int} {d : PyData} (h : DdAll K H vs ds) (hi : atI ds i = some d) : ∃ v, atI vs i = some v ∧ Dd K H v d := by
  unfold atI at hi ⊢
  rw [dps_len h]
  cases hj : ixN ds.length i with
  | none => rw [hj] at hi; cases hi
  | some j =>
    rw [hj] at hi
    exact dps_get h (i := j) hi
theorem ed_ixT {i : Int} {z : PyData} (ha : ED K b ta σ H (.tuple ds)) (hb : ED K b tb σ H (.int i)) (hi : atI ds i = some z) : ED K b (tOp (rIxT K) ta tb) σ H z :=
  ed_op ha hb fun H1 x y Q _ hx hy q => by
    cases hx with
    | tup h1 _ h2 =>
      obtain ⟨v, q1, q2⟩ := dps_atI h2 hi
      exact ⟨_, _, i, v, rfl, dq_int hy, ex_t hid_le h1, q1, q v H1 (Ex.refl H1) q2⟩
theorem ed_ixL {i : Int} {z : PyData} (ha : ED K b ta σ H (.list ds)) (hb : ED K b tb σ H (.int i)) (hi : atI ds i = some z) : ED K b (tOp (rIxL K) ta tb) σ H z :=
  ed_op ha hb fun H1 x y Q _ hx hy q => by
    cases hx with
    | lst h1 h2 =>
      obtain ⟨v, q1, q2⟩ := dps_atI h2 hi
      exact ⟨_, _, i, v, rfl, dq_int hy, ex_l hid_le h1, q1, q v H1 (Ex.refl H1) q2⟩
/-! ### in -/
def rInT (K : PySem.W.Frag) (neg : Bool) : R2 := fun x y H Q => ∃ d ds, Dp K H x d ∧ Dp K H y (.tuple ds) ∧ SeqAt.shaped d = true ∧ SeqAt.shaped (.tuple ds) = true ∧ Q (.bl (if neg = true then !ds.any (fun z => PyData.eqv z d) else ds.any fun z => PyData.eqv z d)) H
theorem op_inT {X : Cx} (hu : X.A.units + 65 < cLine) : OpR X (compareOp .In) (rInT X.K false) := by
  intro pins s σ H x y v u Q I rx ry ⟨d, ds, hd, he, sd, se, q⟩
  obtain ⟨as, r1⟩ := Dp.reads I d x v hd rx
  obtain ⟨bs, r2⟩ := Dp.reads I (.tuple ds) y u he ry
  exact SeqAt.in_tuple_reads r2 r1 (SeqAt.canLay_of_shaped se) (SeqAt.canLay_of_shaped sd) (room_in_shaped sd hu) ⟨.bl _, H, I, rfl, q⟩
theorem op_notInT {X : Cx} (hu : X.A.units + 65 < cLine) : OpR X (compareOp .NotIn) (rInT X.K true) := by
  intro pins s σ H x y v u Q I rx ry ⟨d, ds, hd, he, sd, se, q⟩
  obtain ⟨as, r1⟩ := Dp.reads I d x v hd rx
  obtain ⟨bs, r2⟩ := Dp.reads I (.tuple ds) y u he ry
  exact SeqAt.notIn_tuple_reads r2 r1 (SeqAt.canLay_of_shaped se) (SeqAt.canLay_of_shaped sd) (room_in_shaped sd hu) ⟨.bl _, H, I, rfl, q⟩
def inD (d : PyData) (ds : List PyData) : Bool := ds.any fun z => PyData.eqv z d
theorem ed_inT (ha : ED K b ta σ H d) (hb : ED K b tb σ H (.tuple ds)) (sd : SeqAt.shaped d = true) (se : SeqAt.shaped (.tuple ds) = true) : ED K b (tOp (rInT K false) ta tb) σ H (.bool (inD d ds)) :=
  ed_op ha hb fun H1 x y Q _ hx hy q => ⟨d, ds, hx.dp, hy.dp, sd, se, q _ H1 (Ex.refl H1) (.bl _)⟩
theorem ed_inL (ha : ED K b ta σ H d) (hb : ED K b tb σ H (.list ds)) (sd : SeqAt.shaped d = true) (se : SeqAt.shaped (.list ds) = true) : ED K b (tOp (rInD K) ta tb) σ H (.bool (inD d ds)) :=
  ed_op ha hb fun H1 x y Q _ hx hy q => ⟨d, ds, hx.dp, hy.dp, sd, se, q _ H1 (Ex.refl H1) (.bl _)⟩
theorem ed_ninL (ha : ED K b ta σ H d) (hb : ED K b tb σ H (.list ds)) (sd : SeqAt.shaped d = true) (se : SeqAt.shaped (.list ds) = true) : ED K b (tOp (rNotInD K) ta tb) σ H (.bool (!inD d ds)) :=
  ed_op ha hb fun H1 x y Q _ hx hy q => ⟨d, ds, hx.dp, hy.dp, sd, se, q _ H1 (Ex.refl H1) (.bl _)⟩
/-! ### new lists and tuples -/
theorem ed_lst {t : TA} (kn : Kn b H) (ha : EA K b t σ H ds) (hl : ds.length ≤ sizeLine) : ED K b (tLst t) σ H (.list ds) := fun H1 x1 Q q =>
  ha H1 x1 _ fun vs H2 x2 hvs => ⟨by rw [dps_len hvs]; exact hl, fun p hp => q _ _ (x2.trans (Ex.new hp))
    (.lst (.inl (.inl (hid_new ((kn.up (x1.trans x2)).new hp)))) (hvs.up (Ex.new hp)))⟩
/-- a tuple display, its object known -/
def tTupF (t : TA) : TE := fun σ H Q => t σ H fun xs H1 => xs.length ≤ sizeLine ∧ ∀ p o, H1 p = none → o.dict = none → Q (.ref p) (upd H1 p (.frz o (.tup xs)))
theorem pe_tupF {X : Cx} {es : List Expr} {t : TA} {pos : Pos} {x1} (h : PA X es t) : PE X (.Tuple es x1 pos) (tTupF t) := by
  refine ⟨fun pins s σ H Q I hq => ?_⟩
  refine wpAny_Tuple_spliced (thn (h.run pos pins s σ H _ I hq) fun us s1 ⟨xs, H1, I1, r, z, q⟩ => ⟨by rw [← r.length]; exact z, ?_⟩)
  have hf : H1 s1.heap.objs.size = none := I1.hok.fresh (Nat.le_refl _)
  refine ⟨.ref s1.heap.objs.size, upd H1 s1.heap.objs.size (.frz { cls := .type "tuple", data := .seq us.toArray } (.tup xs)),
    I1.laid (t' := s1.toks) (fun b u e => Heap.get?_push_of_some _ e) (Nat.le_refl _) ?_, rfl, q _ _ hf rfl⟩
  exact ⟨Heap.get?_push_size _ rfl, z, us, r, ⟨_, Heap.get?_push_size _ rfl, rfl, _, rfl⟩⟩
theorem ed_tup {t : TA} (kn : Kn b H) (ha : EA K b t σ H ds) (hl : ds.length ≤ sizeLine) : ED K b (tTupF t) σ H (.tuple ds) := fun H1 x1 Q q =>
  ha H1 x1 _ fun vs H2 x2 hvs => ⟨by rw [dps_len hvs]; exact hl, fun p o hp ho => by
    have e := hid_new (o := HO.frz o (.tup vs)) (H := H2) ((kn.up (x1.trans x2)).new hp)
    exact q _ _ (x2.trans (Ex.new hp)) (.tup (.inl (.inr ⟨_, e⟩)) (.inl ⟨_, _, e, ho⟩) (hvs.up (Ex.new hp)))⟩
/-! ### all([..]) -/
theorem ed_all {bs : List Bool} (ha : ED K b ta σ H (.list (bs.map PyData.bool))) : ED K b (tCB (rAll K) (tCons ta tNil)) σ H (.bool (bs.all id)) := fun H1 x1 Q q =>
  ha H1 x1 _ fun x H2 x2 hx => by
    have hx' := hx.dd
    cases hx' with
    | lst h1 h2 =>
      rw [dps_bls h2] at h1
      exact ⟨_, bs, rfl, h1, q _ H2 x2 (.bl _)⟩
end
end Wr

set_option Elab.async false
set_option linter.all false
set_option maxRecDepth 100000
set_option maxHeartbeats 4000000
namespace Wr
open PySem PySem.Spec PyProof.Rows L2 Evl

/-! ### enumerate(tuple) -/
theorem enum_new1 {v : Value} {o : Obj} {H : Heap → Prop} (B : Begins v o H) :
    Meets (Builtin.«enumerate.__new__» ⟨[.type "enumerate", v], []⟩) (fun _ R s => H s.heap ∧
      R (.ok (.ret (.ref (s.heap.push o).objs.size)))
        { s with heap := (s.heap.push o).push { cls := .type "enumerate", data := .fields #[.none, .bool false, .ref s.heap.objs.size, rawInt 0, .none, .none] } }) :=
  .of_wp fun prog w A R s h => by
    obtain ⟨hp, g, d, tk, os⟩ := s
    obtain ⟨h1, h⟩ := h
    have hsub := sub_enumerate
    have q1 : ∀ {A' : Around} {E : Value → Shared → Prop} {Q : Value → Shared → Prop}, Q (.ref hp.objs.size) ⟨hp.push o, g, d, tk, os⟩ →
        wpAny (model prog w) A' (pyIter v) Q E ⟨hp, g, d, tk, os⟩ := fun q => B.iter prog w _ _ ⟨hp, g, d, tk, os⟩ _ h1 q
    wp_walk using q1
    refine wpAny_stack_any fun st => wpAny_pure ?_
    split
    · rename_i c _ _ _ _ _
      cases (c == Value.type "enumerate") <;> (wp_walk using q1; exact ⟨_, rfl, h⟩)
    · wp_walk using q1
      exact ⟨_, rfl, h⟩
section
variable {prog : Program} {w : World} {A : Around} {E : Value → Shared → Prop} {s : Shared}
theorem enum_call1 {v : Value} {o : Obj} {H : Heap → Prop} {Q : Value → Shared → Prop} (B : Begins v o H) (h1 : H s.heap)
    (h : ∀ h', IsEnum h' (s.heap.objs.size + 1) s.heap.objs.size 0 .none → h'.get? s.heap.objs.size = some o →
      (∀ b o, s.heap.get? b = some o → h'.get? b = some o) → Q (.ref (s.heap.objs.size + 1)) { s with heap := h' }) :
    wpAny (model prog w) A (call (.type "enumerate") [v]) Q E s := by
  refine callType_new F.called_enumerate (by decide) (F.typeCall_enumerate_1 _) (F.newCall_enumerate_1 _) (fun obj => F.args_object_init_2 obj _)
    F.entry_enumerate_new (enum_new1 B) ⟨h1, ?_⟩
  have hz : (s.heap.push o).objs.size = s.heap.objs.size + 1 := Heap.size_push ..
  show _ ∧ _
  rw [hz]
  have he : IsEnum ((s.heap.push o).push { cls := .type "enumerate", data := .fields #[.none, .bool false, .ref s.heap.objs.size, rawInt 0, .none, .none] })
      (s.heap.objs.size + 1) s.heap.objs.size 0 .none := by
    have g := Heap.get?_push_size (s.heap.push o) (o := { cls := .type "enumerate", data := .fields #[.none, .bool false, .ref s.heap.objs.size, rawInt 0, .none, .none] }) rfl
    rw [hz] at g
    exact g
  exact ⟨⟨_, he, rfl⟩, h _ he (Heap.get?_push_of_some _ (Heap.get?_push_size _ B.free)) fun b o x => Heap.get?_push_of_some _ (Heap.get?_push_of_some _ x)⟩
end
/-- the tuple at a, each item with its number in a new pair -/
def Itet (K : PySem.W.Frag) (a : Addr) : It where
  go := fun i H => ∃ (xs : List V) (x : V), SqT K H a xs ∧ xs[i]? = some x
  yld := fun i H v H' => ∃ T x, v = .ref T ∧ H T = none ∧ H' = upd H T (.tup [.int (i : Nat), x]) ∧ ∀ xs, SqT K H a xs → xs[i]? = some x
  stop := fun i H => ∃ xs : List V, SqT K H a xs ∧ xs.length = i
theorem turn_enumT {P : Program} {w : World} {K : PySem.W.Frag} {elts : List Expr} {kk : Nat} {tpos : Pos} (a e it : Addr) (hne : e ≠ it) (hat : a ≠ it) (hea : e ≠ a) :
    Turn P w K (.Tuple elts kk tpos) (Itet K a) [e, it] e (fun i h => (∃ old, IsEnum h e it ((i : Nat) : Int) old) ∧ h.IsTupleIter it a i) where
  mem := by simp
  obj := fun i h st b hb => by
    obtain ⟨⟨old, he⟩, ⟨o, ho, hc, hd⟩⟩ := st
    rcases (show b = e ∨ b = it by simpa using hb) with z | z
    · subst z
      exact ⟨_, he, fun v q => nomatch q⟩
    · subst z
      exact ⟨o, ho, fun v q => by rw [hd] at q; cases q⟩
  keep := fun i h h' st k => by
    obtain ⟨⟨old, he⟩, hi⟩ := st
    exact ⟨⟨old, k e (by simp) _ he⟩, hi.at fun o q => k it (by simp) o q⟩
  item := by
    intro X hP hw hK hc i pins s σ H E I hf st hg
    subst hP hw hK
    obtain ⟨⟨old, he⟩, hit⟩ := st
    obtain ⟨xs, x, hq, hx⟩ := hg
    obtain ⟨its, rv, p, hz⟩ := I.tuple hq
    obtain ⟨u, hu, ru⟩ := rv.get hx
    have hel : e < s.heap.objs.size := Heap.lt_size he
    have hil : it < s.heap.objs.size := by
      obtain ⟨_, q, _⟩ := hit
      exact Heap.lt_size q
    have hd : (X.A.in1).handled = none := I.ok.hd hc
    have hlt : i < its.toArray.size := by
      have := (List.getElem?_eq_some_iff.mp hu).1
      simpa using this
    refine wpAny_pyNext_enum_itemD (Draws.tuple hd it a hat its.toArray) he (i := i) ⟨hit, p⟩ hlt hne (by simp [hne, hea]) fun y h' tk hy ho st' hT hsz hk => ?_
    have ey : y = u := by
      have : its.toArray[i]? = some u := by simpa using hu
      rw [this] at hy
      exact (Option.some.inj hy).symm
    subst ey
    refine ⟨_, rfl, wpAny_letOwnedTupleGo_enum (s := { s with heap := h', toks := tk + 1 }) ho fun h'' he' sb => ?_⟩
    have hT2 : h''.get? s.heap.objs.size = some { cls := .type "tuple", data := .seq #[.int i tk, y] } := (sb.2 _ (Nat.ne_of_gt hel)).trans hT
    have new : ObjOk X.prog X.w (upd H s.heap.objs.size (.tup [.int (i : Nat), x])) h'' s.heap.objs.size (.tup [.int (i : Nat), x]) :=
      ⟨by show 2 ≤ sizeLine; decide, [.int i tk, y], .cons ⟨_, rfl⟩ (.cons ru .nil), ⟨_, hT2, rfl, _, rfl⟩⟩
    have I1 : Inv X pins σ (upd H s.heap.objs.size (.tup [.int (i : Nat), x])) { s with heap := h'', toks := tk + 1 } := by
      refine I.turnedNew (ch := [e, it]) (fun b ob hb q => ?_) hf (Nat.le_refl _) new
      have h1 : b ≠ e := fun z => hb (by simp [z])
      have h2 : b ≠ it := fun z => hb (by simp [z])
      exact (sb.2 b h1).trans (hk b ob h1 h2 q)
    refine ⟨.ref s.heap.objs.size, _, I1, rfl, ⟨_, x, rfl, I.hok.fresh (Nat.le_refl _), rfl, fun ys hy' => ?_⟩, ⟨⟨y, ?_⟩, st'.1.at fun o q => (sb.2 it (Ne.symm hne)).trans q⟩, fun b hb => ?_⟩
    · rw [I.tuple_inj hy' hq]
      exact hx
    · have e1 : ((i + 1 : Nat) : Int) = (i : Int) + 1 := by omega
      rw [e1]
      exact he'
    · have hb' : b < s.heap.objs.size := by
        rcases (show b = e ∨ b = it by simpa using hb) with z | z
        · rw [z]; exact hel
        · rw [z]; exact hil
      rw [upd_ne (Nat.ne_of_lt hb')]
      exact (hf b hb).1
  done := by
    intro X hP hw hK hc i pins s σ H E I hf st hg
    subst hP hw hK
    obtain ⟨⟨old, he⟩, hit⟩ := st
    obtain ⟨xs, hq, hx⟩ := hg
    obtain ⟨its, rv, p, hz⟩ := I.tuple hq
    obtain ⟨f0, f1, f2, f3, f4, f5⟩ := hf it (by simp)
    have hl := rv.length
    have hd : (X.A.in1).handled = none := I.ok.hd hc
    have ei : i = its.toArray.size := by
      rw [List.size_toArray]
      omega
    subst ei
    exact wpAny_pyNext_enum_endD (Draws.tuple hd it a hat its.toArray) he ⟨hit, p⟩ fun h' eb => ⟨rfl, I.turned (t' := s.toks) (fun b o hb q => eb b o hb q) f0 f1 f3 f4 f5⟩
  self := fun A i s Q E st h => by
    obtain ⟨⟨_, he⟩, _⟩ := st
    exact wpAny_pyIter_enum he h
def iEnumT (K : PySem.W.Frag) (ta : TA) : TI := fun σ H R => ta σ H fun vs H1 => ∃ a xs, vs = [.ref a] ∧ SqT K H1 a xs ∧ R (Itet K a) H1
theorem pi_enumT {X : Cx} {e : Expr} {ta : TA} {p pos tpos : Pos} {elts : List Expr} {kk : Nat} (hg : Gl X "enumerate") (hm : X.mg "enumerate" = none) (ha : PA X [e] ta)
    (hs : starEach [e] X.env = [(false, eval e X.env)] := by rfl) : PI X (.Tuple elts kk tpos) (.Call (.Name "enumerate" p) [e] [] pos) (iEnumT X.K ta) := by
  refine ⟨fun pins s σ H R I h => ?_⟩
  refine Call_ (ld_blt I hg hm boot_enumerate (PyProof.Rows.callWith_type1 (thn (ha.run pos pins s σ H _ I h) fun us s1 ⟨vs, H1, I1, r1, q1⟩ => ?_) hs rfl))
  obtain ⟨a, xs, ex, hq, q⟩ := q1
  subst ex
  cases r1 with
  | cons r rr =>
    cases rr
    cases r
    obtain ⟨its, rv, p', hz⟩ := I1.tuple hq
    have hal : a < s1.heap.objs.size := by
      obtain ⟨_, q', _⟩ := p'
      exact Heap.lt_size q'
    refine enum_call1 (begins_tuple a its.toArray) p' fun h' he hit hk => wpAny_pyIter_enum he ?_
    have I2 : Inv X pins σ H1 { s1 with heap := h' } := I1.kept (t' := s1.toks) hk
    refine ⟨s1.heap.objs.size + 1, [s1.heap.objs.size + 1, s1.heap.objs.size], _, _, H1, rfl, I2,
      turn_enumT a (s1.heap.objs.size + 1) s1.heap.objs.size (Nat.succ_ne_self _) (Nat.ne_of_lt hal) (Nat.ne_of_gt (Nat.lt_succ_of_lt hal)), ⟨⟨.none, he⟩, ⟨_, hit, rfl, rfl⟩⟩, fun b hb => ?_, q⟩
    have hle : s1.heap.objs.size ≤ b := by
      rcases (show b = s1.heap.objs.size + 1 ∨ b = s1.heap.objs.size by simpa using hb) with z | z
      · rw [z]; exact Nat.le_add_right _ _
      · rw [z]; exact Nat.le_refl _
    exact I1.fpOk hle (I1.hok.fresh hle)
theorem walk_enumT {K : PySem.W.Frag} {a : Addr} {xs : List V} : Walk (Itet K a) xs.length (fun H => SqT K H a xs) (YPair (fun i => some (.int (i : Nat))) (fun i => xs[i]?)) where
  goes := fun i H hi h => ⟨xs, xs[i], h, List.getElem?_eq_getElem hi⟩
  stops := fun H h => ⟨xs, h, rfl⟩
  yields := fun i H x H' hi h ⟨T, y, e1, e2, e3, e4⟩ => ⟨T, .int (i : Nat), y, e1, e2, e3, rfl, e4 xs h⟩
end Wr

set_option Elab.async false
set_option linter.all false
set_option maxRecDepth 100000
set_option maxHeartbeats 4000000
namespace Wr
open PySem PySem.Spec PyProof.Rows L2 Evl

/-! ### flat data -/
def flatP : PyData → Bool
  | .none => true
  | .bool _ => true
  | .int _ => true
  | .str _ => true
  | _ => false
def vOf : PyData → V
  | .bool b => .bl b
  | .int i => .int i
  | .str x => .str x
  | _ => .non
theorem dp_flat {K : PySem.W.Frag} {H : Hp} {v : V} {d : PyData} (h : Dd K H v d) (f : flatP d = true) : v = vOf d := by
  cases h with
  | non => rfl
  | bl b => rfl
  | int i => rfl
  | str x => rfl
  | lst _ _ => cases f
  | tup _ _ _ => cases f
theorem flat_dp {K : PySem.W.Frag} {H : Hp} {d : PyData} (f : flatP d = true) : Dd K H (vOf d) d := by
  cases d with
  | none => exact .non
  | bool b => exact .bl b
  | int i => exact .int i
  | str x => exact .str x
  | list _ => cases f
  | tuple _ => cases f
  | dict _ => cases f
theorem flats_dp {K : PySem.W.Frag} {H : Hp} : ∀ {ds : List PyData}, (∀ d ∈ ds, flatP d = true) → DdAll K H (ds.map vOf) ds
  | [], _ => .nil
  | d :: ds, f => .cons (flat_dp (f d List.mem_cons_self)) (flats_dp fun e he => f e (List.mem_cons_of_mem _ he))
theorem wipe_set1 {σ : L2.St} {n : Nat} {x : Option V} : wipe ((wipe σ [n]).set n x) [n] = wipe σ [n] := by
  show ((σ.set n none).set n x).set n none = σ.set n none
  rw [List.set_set, List.set_set]
section
variable {K : PySem.W.Frag} {b : List Addr} {σ : L2.St} {H H' : Hp} {ta te : TE} {tt : TT} {d : PyData} {ds : List PyData}
/-- a comprehension with one name, a test and flat items, over anything that is walked -/
theorem lc_flat {J : It} {n : Nat} {G : Hp → Prop} {xs : List V} {H2 : Hp} {k : Nat} {g : Nat → PyData} {p : Nat → Bool} (W : Walk J n G (YAt xs)) (hn : n = xs.length) (hl : n < sizeLine) (kn : Kn b H2) (hG : ∀ H3, Ex H2 H3 → G H3)
    (hp : ∀ i x H3, xs[i]? = some x → Ex H2 H3 → EvT tt ((wipe σ [k]).set k (some x)) H3 (p i))
    (he : ∀ i x H3, xs[i]? = some x → p i = true → Ex H2 H3 → ED K b te ((wipe σ [k]).set k (some x)) H3 (g i)) (hf : ∀ i, i < n → p i = true → flatP (g i) = true)
    {Q : VK} (q : ∀ v H3, Ex H2 H3 → Dq K b H3 v (.list (((List.range n).filter p).map g)) → Q v H3) (D : Addr) (hD : H2 D = none) :
    ∃ W : Nat → Nat → Hp → Prop, (∃ m, W 0 m (upd H2 D (.lst []))) ∧ ∀ i m H, W i m H →
      (J.stop i H ∧ Q (.ref D) H) ∨ (J.go i H ∧ ∃ Nx : Hp → Prop, (∀ H', Nx H' → ∃ m', m' < m ∧ W (i + 1) m' H') ∧ ∀ x H', J.yld i H x H' → gName k x (wipe σ [k]) H' fun σ2 H2 => wipe σ2 [k] = wipe σ [k] ∧ tt σ2 H2 fun b H3 =>
        if b = true then te σ2 H3 fun y H4 => ∃ acc, H4 D = some (.lst acc) ∧ acc.length < sizeLine ∧ Nx (upd H4 D (.lst (acc ++ [y]))) else Nx H3) := by
  refine lc_it W (fun i H3 => Ex H2 H3 ∧ H3 D = some (.lst ((((List.range i).filter p).map g).map vOf))) ⟨Ex.new hD, upd_same⟩ (fun i H3 _ h => hG H3 h.1) ?_ ?_
  · intro i x H3 H3' hi ⟨x3, e3⟩ ⟨e1, hx⟩
    subst e1
    refine ⟨wipe_set1, hp i x H3' hx x3 H3' (Ex.refl _) _ fun H4 x4 => ?_⟩
    have er : ∀ c, p i = c → (List.range (i + 1)).filter p = (List.range i).filter p ++ (if c = true then [i] else []) := fun c hc => by
      rw [List.range_succ, List.filter_append]
      cases c with
      | true => simp [hc]
      | false => simp [hc]
    cases hpi : p i with
    | false =>
      rw [if_neg Bool.false_ne_true]
      refine ⟨x3.trans x4, ?_⟩
      rw [er false hpi, if_neg Bool.false_ne_true, List.append_nil]
      exact x4 _ _ e3
    | true =>
      rw [if_pos rfl]
      refine he i x H4 hx hpi (x3.trans x4) H4 (Ex.refl _) _ fun y H5 x5 hy => ?_
      have ey := dp_flat hy (hf i hi hpi)
      refine ⟨_, x5 _ _ (x4 _ _ e3), ?_, Ex.mut (x3.trans (x4.trans x5)) hD, ?_⟩
      · rw [List.length_map, List.length_map]
        have := List.length_filter_le p (List.range i)
        rw [List.length_range] at this
        omega
      · rw [upd_same, er true hpi, if_pos rfl, List.map_append, List.map_append, ey]
        rfl
  · intro H3 ⟨x3, e3⟩
    refine q _ H3 x3 (.lst (.inl (.inl ?_)) (flats_dp fun d hd => ?_))
    · rw [hid_ne (kn.new hD)]
      exact e3
    · obtain ⟨i, hi, rfl⟩ := List.mem_map.mp hd
      obtain ⟨h1, h2⟩ := List.mem_filter.mp hi
      exact hf i (List.mem_range.mp h1) h2
theorem range_map {α β : Type} (xs : List α) (f : α → β) (g : Nat → β) (h : ∀ i x, xs[i]? = some x → g i = f x) : (List.range xs.length).map g = xs.map f := by
  apply List.ext_getElem?
  intro i
  rw [List.getElem?_map, List.getElem?_map]
  by_cases hi : i < xs.length
  · rw [List.getElem?_eq_getElem (by rw [List.length_range]; exact hi), List.getElem?_eq_getElem hi, List.getElem_range]
    simp [h i xs[i] (List.getElem?_eq_getElem hi)]
  · rw [List.getElem?_eq_none (by rw [List.length_range]; omega), List.getElem?_eq_none (by omega)]
    rfl
theorem range_filter_map {α β : Type} (f : α → β) (p : α → Bool) : ∀ (xs : List α) (g : Nat → β) (q : Nat → Bool), (∀ i x, xs[i]? = some x → q i = p x ∧ (p x = true → g i = f x)) → ((List.range xs.length).filter q).map g = (xs.filter p).map f
  | [], _, _, _ => rfl
  | x :: xs, g, q, h => by
    rw [List.length_cons, List.range_succ_eq_map, List.filter_cons]
    obtain ⟨h1, h2⟩ := h 0 x rfl
    have ih := range_filter_map f p xs (fun i => g (i + 1)) (fun i => q (i + 1)) fun i y hy => h (i + 1) y hy
    have e : ((List.range xs.length).map Nat.succ).filter q = ((List.range xs.length).filter fun i => q (i + 1)).map Nat.succ := by
      rw [List.filter_map]
      rfl
    have e2 : (((List.range xs.length).map Nat.succ).filter q).map g = (xs.filter p).map f := by
      rw [e, List.map_map, ← ih]
      rfl
    rw [h1, List.filter_cons]
    cases hp : p x with
    | true =>
      rw [if_pos rfl, if_pos rfl, List.map_cons, List.map_cons, e2, h2 hp]
    | false =>
      rw [if_neg Bool.false_ne_true, if_neg Bool.false_ne_true, e2]
/-- over a tuple, a list: no test -/
theorem et_yes : EvT tYes σ H true := fun H1 x Q q => q H1 (Ex.refl H1)
/-- over a tuple or a list: with a test; items flat -/
theorem ed_lcT {k : Nat} {f : PyData → PyData} {p : PyData → Bool} (kn : Kn b H) (ha : ED K b ta σ H (.tuple ds)) (hl : ds.length < sizeLine)
    (hp : ∀ d v H3, d ∈ ds → Ex H H3 → Dq K b H3 v d → EvT tt ((wipe σ [k]).set k (some v)) H3 (p d))
    (he : ∀ d v H3, d ∈ ds → p d = true → Ex H H3 → Dq K b H3 v d → ED K b te ((wipe σ [k]).set k (some v)) H3 (f d)) (hf : ∀ d ∈ ds, p d = true → flatP (f d) = true) :
    ED K b (tLc (iTup K ta) (gName k) tt te [k]) σ H (.list ((ds.filter p).map f)) := fun H1 x1 Q q =>
  ha H1 x1 _ fun x H2 x2 hx => by
    cases hx with
    | @tup a xs _ h1 _ h2 =>
      have hlen := dps_len h2
      have at_ : ∀ i x, xs[i]? = some x → ∃ d, ds[i]? = some d ∧ d ∈ ds ∧ Dq K b H2 x d := fun i x hx => by
        obtain ⟨d, g1, g2⟩ := dps_at h2 hx
        exact ⟨d, g1, List.mem_of_getElem? g1, g2⟩
      refine ⟨a, rfl, ⟨xs, ex_t hid_le h1⟩, lc_flat (K := K) (g := fun i => f (ds.getD i .none)) (p := fun i => p (ds.getD i .none)) walk_tup rfl (by rw [hlen]; exact hl) (kn.up (x1.trans x2)) (fun H3 x3 => ex_t x3 (ex_t hid_le h1)) ?_ ?_ ?_ ?_⟩
      · intro i x H3 hx x3
        obtain ⟨d, g1, g2, g3⟩ := at_ i x hx
        simp only [List.getD_eq_getElem?_getD, g1, Option.getD_some]
        exact hp d x H3 g2 ((x1.trans x2).trans x3) (g3.up x3)
      · intro i x H3 hx hpi x3
        obtain ⟨d, g1, g2, g3⟩ := at_ i x hx
        simp only [List.getD_eq_getElem?_getD, g1, Option.getD_some] at hpi ⊢
        exact he d x H3 g2 hpi ((x1.trans x2).trans x3) (g3.up x3)
      · intro i hi hpi
        have hi' : i < ds.length := by omega
        have g1 : ds[i]? = some ds[i] := List.getElem?_eq_getElem hi'
        simp only [List.getD_eq_getElem?_getD, g1, Option.getD_some] at hpi ⊢
        exact hf _ (List.getElem_mem hi') hpi
      · intro v H3 x3 hv
        refine q v H3 (x2.trans x3) ?_
        rw [hlen] at hv
        rw [range_filter_map f p ds _ _ fun i d hd => ⟨by simp only [List.getD_eq_getElem?_getD, hd, Option.getD_some], fun _ => by simp only [List.getD_eq_getElem?_getD, hd, Option.getD_some]⟩] at hv
        exact hv
theorem ed_lcL {k : Nat} {f : PyData → PyData} {p : PyData → Bool} (kn : Kn b H) (ha : ED K b ta σ H (.list ds)) (hl : ds.length < sizeLine)
    (hp : ∀ d v H3, d ∈ ds → Ex H H3 → Dq K b H3 v d → EvT tt ((wipe σ [k]).set k (some v)) H3 (p d))
    (he : ∀ d v H3, d ∈ ds → p d = true → Ex H H3 → Dq K b H3 v d → ED K b te ((wipe σ [k]).set k (some v)) H3 (f d)) (hf : ∀ d ∈ ds, p d = true → flatP (f d) = true) :
    ED K b (tLc (iList K ta) (gName k) tt te [k]) σ H (.list ((ds.filter p).map f)) := fun H1 x1 Q q =>
  ha H1 x1 _ fun x H2 x2 hx => by
    cases hx with
    | @lst a xs _ h1 h2 =>
      have hlen := dps_len h2
      have at_ : ∀ i x, xs[i]? = some x → ∃ d, ds[i]? = some d ∧ d ∈ ds ∧ Dq K b H2 x d := fun i x hx => by
        obtain ⟨d, g1, g2⟩ := dps_at h2 hx
        exact ⟨d, g1, List.mem_of_getElem? g1, g2⟩
      refine ⟨a, rfl, ⟨xs, ex_l hid_le h1⟩, lc_flat (K := K) (g := fun i => f (ds.getD i .none)) (p := fun i => p (ds.getD i .none)) walk_list rfl (by rw [hlen]; exact hl) (kn.up (x1.trans x2)) (fun H3 x3 => ex_l x3 (ex_l hid_le h1)) ?_ ?_ ?_ ?_⟩
      · intro i x H3 hx x3
        obtain ⟨d, g1, g2, g3⟩ := at_ i x hx
        simp only [List.getD_eq_getElem?_getD, g1, Option.getD_some]
        exact hp d x H3 g2 ((x1.trans x2).trans x3) (g3.up x3)
      · intro i x H3 hx hpi x3
        obtain ⟨d, g1, g2, g3⟩ := at_ i x hx
        simp only [List.getD_eq_getElem?_getD, g1, Option.getD_some] at hpi ⊢
        exact he d x H3 g2 hpi ((x1.trans x2).trans x3) (g3.up x3)
      · intro i hi hpi
        have hi' : i < ds.length := by omega
        have g1 : ds[i]? = some ds[i] := List.getElem?_eq_getElem hi'
        simp only [List.getD_eq_getElem?_getD, g1, Option.getD_some] at hpi ⊢
        exact hf _ (List.getElem_mem hi') hpi
      · intro v H3 x3 hv
        refine q v H3 (x2.trans x3) ?_
        rw [hlen] at hv
        rw [range_filter_map f p ds _ _ fun i d hd => ⟨by simp only [List.getD_eq_getElem?_getD, hd, Option.getD_some], fun _ => by simp only [List.getD_eq_getElem?_getD, hd, Option.getD_some]⟩] at hv
        exact hv
theorem filter_yes {α β : Type} (xs : List α) (f : α → β) : (xs.filter fun _ => true).map f = xs.map f := by
  rw [List.filter_eq_self.mpr fun _ _ => rfl]
theorem ed_lcT1 {k : Nat} {f : PyData → PyData} (kn : Kn b H) (ha : ED K b ta σ H (.tuple ds)) (hl : ds.length < sizeLine)
    (he : ∀ d v H3, d ∈ ds → Ex H H3 → Dq K b H3 v d → ED K b te ((wipe σ [k]).set k (some v)) H3 (f d)) (hf : ∀ d ∈ ds, flatP (f d) = true) :
    ED K b (tLc (iTup K ta) (gName k) tYes te [k]) σ H (.list (ds.map f)) :=
  (ed_lcT (p := fun _ => true) kn ha hl (fun _ _ _ _ _ _ => et_yes) (fun d v H3 h _ x hd => he d v H3 h x hd) fun d h _ => hf d h).to (by rw [filter_yes])
theorem ed_lcL1 {k : Nat} {f : PyData → PyData} (kn : Kn b H) (ha : ED K b ta σ H (.list ds)) (hl : ds.length < sizeLine)
    (he : ∀ d v H3, d ∈ ds → Ex H H3 → Dq K b H3 v d → ED K b te ((wipe σ [k]).set k (some v)) H3 (f d)) (hf : ∀ d ∈ ds, flatP (f d) = true) :
    ED K b (tLc (iList K ta) (gName k) tYes te [k]) σ H (.list (ds.map f)) :=
  (ed_lcL (p := fun _ => true) kn ha hl (fun _ _ _ _ _ _ => et_yes) (fun d v H3 h _ x hd => he d v H3 h x hd) fun d h _ => hf d h).to (by rw [filter_yes])
/-- over the signs of a text, with a test -/
theorem ed_lcS {k : Nat} {z : Str} {p : Nat → Bool} (hk : k < σ.length) (kn : Kn b H) (ha : ED K b ta σ H (.str z)) (hl : z.length < sizeLine)
    (hp : ∀ c H3, c ∈ z.cps.toList → Ex H H3 → EvT tt ((wipe σ [k]).set k (some (.str ⟨#[c]⟩))) H3 (p c)) :
    ED K b (tLc (iStr ta) (gName k) tt (tVar k) [k]) σ H (.list ((z.cps.toList.filter p).map fun c => .str ⟨#[c]⟩)) := fun H1 x1 Q q =>
  ha H1 x1 _ fun x H2 x2 hx => by
    cases hx
    have hsz : z.cps.size = (z.cps.toList.map fun c => V.str ⟨#[c]⟩).length := by rw [List.length_map, Array.length_toList]
    have wk : Walk (Its z) z.cps.size (fun _ => True) (YAt (z.cps.toList.map fun c => V.str ⟨#[c]⟩)) := walk_str.mono (fun _ _ => trivial) fun i H x H' _ _ ⟨e, c, h1, h2⟩ => ⟨e, by
      rw [List.getElem?_map, Array.getElem?_toList, h1, h2]
      rfl⟩
    have at_ : ∀ i x, (z.cps.toList.map fun c => V.str ⟨#[c]⟩)[i]? = some x → ∃ c, z.cps.toList[i]? = some c ∧ x = V.str ⟨#[c]⟩ := fun i x hx => by
      rw [List.getElem?_map] at hx
      cases e : z.cps.toList[i]? with
      | none => rw [e] at hx; cases hx
      | some c =>
        rw [e] at hx
        exact ⟨c, e, (Option.some.inj hx).symm⟩
    refine ⟨z, rfl, lc_flat (K := K) (g := fun i => .str ⟨#[z.cps.toList.getD i 0]⟩) (p := fun i => p (z.cps.toList.getD i 0)) wk hsz (show z.cps.size < _ from hl) (kn.up (x1.trans x2)) (fun _ _ => trivial) ?_ ?_ ?_ ?_⟩
    · intro i x H3 hx x3
      obtain ⟨c, g1, rfl⟩ := at_ i x hx
      simp only [List.getD_eq_getElem?_getD, g1, Option.getD_some]
      exact hp c H3 (List.mem_of_getElem? g1) ((x1.trans x2).trans x3)
    · intro i x H3 hx hpi x3
      obtain ⟨c, g1, rfl⟩ := at_ i x hx
      simp only [List.getD_eq_getElem?_getD, g1, Option.getD_some]
      refine ed_var ?_ (.str _)
      show ((σ.set k none).set k _)[k]? = _
      rw [List.getElem?_set_self (by rw [List.length_set]; exact hk)]
    · intro i hi _
      rfl
    · intro v H3 x3 hv
      refine q v H3 (x2.trans x3) ?_
      have e0 : z.cps.size = z.cps.toList.length := by rw [Array.length_toList]
      rw [e0] at hv
      rw [range_filter_map (fun c => PyData.str ⟨#[c]⟩) p z.cps.toList _ _ fun i d hd => ⟨by simp only [List.getD_eq_getElem?_getD, hd, Option.getD_some], fun _ => by simp only [List.getD_eq_getElem?_getD, hd, Option.getD_some]⟩] at hv
      exact hv
end
end Wr

set_option Elab.async false
set_option linter.all false
set_option maxRecDepth 100000
set_option maxHeartbeats 8000000
namespace Wr
open PySem PySem.Spec PyProof.Rows L2 Evl

/-! ### set(texts) -/
/-- each once, as first met -/
def uqStep (acc : List Str) (x : Str) : List Str := if x ∈ acc then acc else acc ++ [x]
def uq (xs : List Str) : List Str := xs.foldl uqStep []
theorem uq_snoc (xs : List Str) (x : Str) : uq (xs ++ [x]) = uqStep (uq xs) x := by
  unfold uq
  rw [List.foldl_append]
  rfl
theorem uq_le : ∀ (xs acc : List Str), (xs.foldl uqStep acc).length ≤ acc.length + xs.length
  | [], acc => Nat.le_refl _
  | x :: xs, acc => by
    have ih := uq_le xs (uqStep acc x)
    have h1 : (uqStep acc x).length ≤ acc.length + 1 := by
      unfold uqStep
      split
      · omega
      · rw [List.length_append]; exact Nat.le_refl _
    rw [List.foldl_cons, List.length_cons]
    omega
theorem uq_length_le (xs : List Str) : (uq xs).length ≤ xs.length := by
  have := uq_le xs []
  rw [List.length_nil, Nat.zero_add] at this
  exact this
theorem uq_mem_acc : ∀ (xs acc : List Str) (y : Str), y ∈ xs.foldl uqStep acc ↔ y ∈ acc ∨ y ∈ xs
  | [], acc, y => by simp
  | x :: xs, acc, y => by
    rw [List.foldl_cons, uq_mem_acc xs (uqStep acc x) y, List.mem_cons]
    unfold uqStep
    split
    · constructor
      · rintro (h | h)
        · exact .inl h
        · exact .inr (.inr h)
      · rintro (h | rfl | h)
        · exact .inl h
        · exact .inl (by assumption)
        · exact .inr h
    · rw [List.mem_append, List.mem_singleton]
      constructor
      · rintro ((h | h) | h)
        · exact .inl h
        · exact .inr (.inl h)
        · exact .inr (.inr h)
      · rintro (h | h | h)
        · exact .inl (.inl h)
        · exact .inl (.inr h)
        · exact .inr h
theorem uq_mem (xs : List Str) (y : Str) : y ∈ uq xs ↔ y ∈ xs := by
  unfold uq
  rw [uq_mem_acc]
  simp
theorem uq_nodup_acc : ∀ (xs acc : List Str), acc.Nodup → (xs.foldl uqStep acc).Nodup
  | [], acc, h => h
  | x :: xs, acc, h => by
    rw [List.foldl_cons]
    refine uq_nodup_acc xs _ ?_
    unfold uqStep
    split
    · exact h
    · rename_i hx
      rw [List.nodup_append]
      refine ⟨h, by simp, fun a ha c hc => ?_⟩
      rw [List.mem_singleton] at hc
      intro e
      exact hx (hc ▸ e ▸ ha)
theorem uq_nodup (xs : List Str) : (uq xs).Nodup := uq_nodup_acc xs [] List.nodup_nil
theorem uq_all : ∀ (xs acc : List Str), (acc ++ xs).Nodup → xs.foldl uqStep acc = acc ++ xs
  | [], acc, _ => by simp
  | x :: xs, acc, h => by
    rw [List.foldl_cons]
    have hx : x ∉ acc := fun hm => by
      rw [List.nodup_append] at h
      exact h.2.2 x hm x List.mem_cons_self rfl
    have e : uqStep acc x = acc ++ [x] := if_neg hx
    rw [e, uq_all xs (acc ++ [x]) (by rw [List.append_assoc]; exact h), List.append_assoc]
    rfl
/-- as many as there are, just where no text stands twice -/
theorem uq_len_iff (xs : List Str) : (uq xs).length = xs.length ↔ xs.Nodup := by
  constructor
  · intro h
    have h1 := uq_nodup xs
    have sub : ∀ y ∈ xs, y ∈ uq xs := fun y hy => (uq_mem xs y).mpr hy
    by_cases hn : xs.Nodup
    · exact hn
    · exfalso
      have key : ∀ (xs acc : List Str), ¬ xs.Nodup → (xs.foldl uqStep acc).length < acc.length + xs.length := by
        intro xs
        induction xs with
        | nil => intro acc h; exact absurd List.nodup_nil h
        | cons x r ih =>
          intro acc h
          rw [List.foldl_cons, List.length_cons]
          by_cases hx : x ∈ acc
          · have e : uqStep acc x = acc := if_pos hx
            rw [e]
            have := uq_le r acc
            omega
          · have e : uqStep acc x = acc ++ [x] := if_neg hx
            by_cases hr : r.Nodup
            · have hxr : x ∈ r := by
                by_cases q : x ∈ r
                · exact q
                · exact absurd (List.nodup_cons.mpr ⟨q, hr⟩) h
              have low : ∀ (r acc : List Str) (x : Str), x ∈ acc → x ∈ r → (r.foldl uqStep acc).length < acc.length + r.length := by
                intro r
                induction r with
                | nil => intro acc x _ hm; cases hm
                | cons y r ih2 =>
                  intro acc x ha hm
                  rw [List.foldl_cons, List.length_cons]
                  by_cases hy : y ∈ acc
                  · have e : uqStep acc y = acc := if_pos hy
                    rw [e]
                    have := uq_le r acc
                    omega
                  · have e : uqStep acc y = acc ++ [y] := if_neg hy
                    rcases List.mem_cons.mp hm with rfl | hm
                    · exact absurd ha hy
                    · have := ih2 (acc ++ [y]) x (List.mem_append_left _ ha) hm
                      rw [e]
                      rw [List.length_append, List.length_singleton] at this
                      omega
              rw [e]
              have := low r (acc ++ [x]) x (by simp) hxr
              rw [List.length_append, List.length_singleton] at this
              omega
            · have := ih (acc ++ [x]) hr
              rw [e]
              rw [List.length_append, List.length_singleton] at this
              omega
      have := key xs [] hn
      rw [List.length_nil, Nat.zero_add] at this
      unfold uq at h
      omega
  · intro h
    unfold uq
    rw [uq_all xs [] h]
    rfl
def inK (L : List Str) (k : Key) : Bool := L.any fun x => decide (k = Sum.inr x)
theorem inK_step (L : List Str) (x : Str) : (fun k => inK L k || decide (k = (Sum.inr x : Key))) = inK (uqStep L x) := by
  funext k
  unfold uqStep inK
  split
  · rename_i hx
    by_cases e : k = Sum.inr x
    · have : (L.any fun x => decide (k = Sum.inr x)) = true := List.any_eq_true.mpr ⟨x, hx, decide_eq_true e⟩
      rw [this]
      rfl
    · rw [decide_eq_false e, Bool.or_false]
  · rw [List.any_append]
    simp
theorem inK_self (L : List Str) (x : Str) : inK L (Sum.inr x) = decide (x ∈ L) := by
  unfold inK
  by_cases h : x ∈ L
  · rw [decide_eq_true h]
    exact List.any_eq_true.mpr ⟨x, h, decide_eq_true rfl⟩
  · rw [decide_eq_false h]
    apply Bool.eq_false_iff.mpr
    intro q
    obtain ⟨y, hy, e⟩ := List.any_eq_true.mp q
    have e1 := of_decide_eq_true e
    cases e1
    exact h hy
section
variable {prog : Program} {w : World} {A : Around} {R : Result → Shared → Prop} {I : Addr} {fp wr : List Addr} {G : Array GenState → Array GenState → Prop} {n : Nat} {P : Nat → Value → Prop} {St : Nat → Shared → Prop}
/-- the loop that fills a set of texts -/
theorem fill_texts (W : WalksS prog w A.in1 I fp wr G n P St) (S : Addr) (hSf : S ∉ fp) (xs : List Str) (hsz : xs.length = n) (hn1 : n + 1 < scanBound)
    (hval : ∀ i v, P i v → ∃ x t, xs[i]? = some x ∧ v = .str x t) : ∀ (k i : Nat) (s : Shared), n - i = k → i ≤ n → St i s →
      s.heap.SetOf (mixKind prog w) S (inK (uq (xs.take i))) (uq (xs.take i)).length →
      (∀ s', Moved (S :: wr) G s s' → s'.heap.SetOf (mixKind prog w) S (inK (uq xs)) (uq xs).length → R (.ok (.ret .none)) s') →
      codeAny (model prog w) A (.builtin "set.update.loop" ⟨[.ref S, .ref I], []⟩) R s := by
  have out : S ∉ wr := fun h => hSf (W.sub _ h)
  have more : ∀ c ∈ wr, c ∈ S :: wr := fun c hc => List.mem_cons_of_mem _ hc
  intro k
  induction k with
  | zero =>
    intro i s hk hi hst hS hR
    obtain rfl : i = n := by omega
    refine codeAny_builtin PyProof.Rows.F.entry_set_update_loop ?_
    rw [Around.under_plainId PyProof.Rows.F.plain_set_update_loop _]
    show wpAny _ A.in1 (pyNext (.ref I) >>= _) _ _ s
    refine wpAny_bind (W.done s _ _ hst fun s' hm => ?_)
    show wpAny _ A.in1 (ret Value.none) _ _ s'
    refine wpAny_pure (hR s' (hm.mono more) ?_)
    rw [List.take_of_length_le (by omega)] at hS
    obtain ⟨o, es, ep, t, ho, rest⟩ := hS
    exact ⟨o, es, ep, t, hm.heap S _ out ho, rest⟩
  | succ k ih =>
    intro i s hk hi hst hS hR
    have hlt : i < n := by omega
    refine codeAny_builtin PyProof.Rows.F.entry_set_update_loop ?_
    rw [Around.under_plainId PyProof.Rows.F.plain_set_update_loop _]
    show wpAny _ A.in1 (pyNext (.ref I) >>= _) _ _ s
    refine wpAny_bind (W.item i s _ _ hlt hst fun v s' hP hst' hm => ?_)
    obtain ⟨x, t, hx, rfl⟩ := hval i v hP
    have hS' : s'.heap.SetOf (mixKind prog w) S (inK (uq (xs.take i))) (uq (xs.take i)).length := by
      obtain ⟨o, es, ep, tb, ho, rest⟩ := hS
      exact ⟨o, es, ep, tb, hm.heap S _ out ho, rest⟩
    show wpAny _ A.in1 (holding [Value.str x t] (setAdd S (.str x t)) >>= _) _ _ s'
    refine wpAny_bind (wpAny_holding ?_)
    unfold setAdd
    refine wpAny_holding (wpAny_bind ((mixKind prog w).pyHash (k := Sum.inr x) (mixKind_str _ _ _ _) ?_))
    have room : (uq (xs.take i)).length + 1 < scanBound := by
      have h1 := uq_length_le (xs.take i)
      rw [List.length_take] at h1
      omega
    refine wpAny_setAddHashed_of (knd := mixKind prog w) (k := Sum.inr x) (s := { s' with toks := s'.toks + 1 }) (mixKind_str _ _ _ _) rfl hS' room fun h' hsb hS2 => ?_
    have et : xs.take (i + 1) = xs.take i ++ [x] := by
      rw [List.take_add_one, hx]
      rfl
    have hSi : h'.SetOf (mixKind prog w) S (inK (uq (xs.take (i + 1)))) (uq (xs.take (i + 1))).length := by
      rw [inK_step, inK_self] at hS2
      rw [et, uq_snoc]
      have el : (if decide (x ∈ uq (xs.take i)) = true then (uq (xs.take i)).length else (uq (xs.take i)).length + 1) = (uqStep (uq (xs.take i)) x).length := by
        unfold uqStep
        by_cases h : x ∈ uq (xs.take i)
        · rw [decide_eq_true h, if_pos rfl, if_pos h]
        · rw [decide_eq_false h, if_neg Bool.false_ne_true, if_neg h, List.length_append]
          rfl
      rw [el] at hS2
      exact hS2
    refine wpAny_pure ⟨plainId_quiet PyProof.Rows.F.plain_set_update_loop _, ih (i + 1) _ (by omega) hlt (W.frame _ s' _ _ hst' (Nat.le_succ _) fun c hc o e => ?_) hSi fun s'' hm'' hS'' => ?_⟩
    · have nc : c ≠ S := fun h => hSf (h ▸ hc)
      rw [hsb.2 c nc]
      exact e
    · refine hR s'' (Moved.trans W.gtrans ((hm.mono more).then_heap (Nat.le_succ _) fun c o hc e => ?_) hm'') hS''
      have nc : c ≠ S := fun h => hc (by rw [h]; exact List.mem_cons_self)
      rw [hsb.2 c nc]
      exact e
end
end Wr

set_option Elab.async false
set_option linter.all false
set_option maxRecDepth 100000
set_option maxHeartbeats 8000000
namespace Wr
open PySem PySem.Spec PyProof.Rows L2 Evl
abbrev freshSet (led : Bool) : Obj := { cls := .type "set", dict := none, data := .set #[] 0 (.fresh 0 0 led) }
section
variable {prog : Program} {w : World} {A : Around} {E : Value → Shared → Prop} {s : Shared}
/-- what set(v) asks of v: its type, its iterator -/
structure SetSrc (prog : Program) (w : World) (T : String) (l : Addr) (xs : List Str) (s : Shared) : Prop where
  sub1 : isSubtype (.type T) (.type "set") = pure false
  sub2 : isSubtype (.type T) (.type "frozenset") = pure false
  nd : (Value.type T == Value.type "dict") = false
  ob : ∃ o, s.heap.get? l = some o ∧ o.cls = .type T
  it : ∀ (A : Around) (led : Bool) (Q : Value → Shared → Prop) (E : Value → Shared → Prop), A.handled = none →
    (∀ (s2 : Shared) (I : Addr) (fp wr : List Addr) (G : Array GenState → Array GenState → Prop) (P : Nat → Value → Prop) (St : Nat → Shared → Prop), (∀ a, G a a) → (∀ a b, G a b → b = a) → WalksS prog w A.in1 I fp wr G xs.length P St → St 0 s2 →
      s.heap.objs.size ∉ fp → (∀ b o, (s.heap.push (freshSet led)).get? b = some o → s2.heap.get? b = some o) → (∀ b ∈ wr, s.heap.objs.size < b) →
      (∀ i v, P i v → ∃ x t, xs[i]? = some x ∧ v = .str x t) → s2.gens = s.gens ∧ s2.drawn = s.drawn ∧ s2.os = s.os → Q (.ref I) s2) →
    wpAny (model prog w) A (pyIter (.ref l)) Q E { s with heap := s.heap.push (freshSet led) }
theorem set_call {T : String} {l : Addr} {xs : List Str} {Q : Value → Shared → Prop} (hh : A.handled = none) (src : SetSrc prog w T l xs s) (hn : xs.length + 1 < scanBound)
    (h : ∀ (h' : Heap) (tk : Nat), h'.SetOf (mixKind prog w) s.heap.objs.size (inK (uq xs)) (uq xs).length →
      (∀ b o, b < s.heap.objs.size → s.heap.get? b = some o → h'.get? b = some o) → Q (.ref s.heap.objs.size) { s with heap := h', toks := tk }) :
    wpAny (model prog w) A (call (.type "set") [.ref l]) Q E s := by
  obtain ⟨c, tl, hmro⟩ := PySem.F.called_set.mro
  have m1 := PySem.F.called_set.made
  have m2 := PySem.F.called_set.sub
  refine wpAny_call (codeAny_of_tree ?_)
  show wpAny _ _ (callAny (.type "set") _) _ _ _
  refine wpAny_pure ⟨Code.quiet_builtin _ (by decide +kernel), codeAny_builtin PySem.F.entry_type_call ?_⟩
  rw [Around.under_plain (weight_type_call_type "set" [.ref l] []) rfl]
  have m3 := PySem.F.called_set.notType
  have m4 := PySem.F.called_set.canCreate
  have m5 := PySem.F.typeCall_set_1 (.ref l)
  repeat (any_goals (first | assumption | wp_step))
  refine codeAny_mono (code_set_new_1 (.ref l) (E := E) (Q₁ := fun obj s₁ => ∃ led : Bool, obj = .ref s.heap.objs.size ∧
    s₁ = { s with heap := s.heap.push (freshSet led) }) fun led => ⟨led, rfl, rfl⟩) fun r s₁ hr => ?_
  cases r with
  | error e => exact hr
  | ok fl =>
    cases fl with
    | ret obj =>
      obtain ⟨led, rfl, rfl⟩ := hr
      have hS : (s.heap.push (freshSet led)).get? s.heap.objs.size = some (freshSet led) := Heap.get?_push_size _ rfl
      have hT : Shared.TypeIs { s with heap := s.heap.push (freshSet led) } (.ref s.heap.objs.size) "set" := ⟨_, hS, rfl⟩
      have m6 := PySem.F.called_set.init.lookup
      have m7 := PySem.F.called_set.init.bind (.ref s.heap.objs.size)
      repeat (any_goals (first | assumption | wp_step))
      refine codeAny_mono (codeAny_call_builtin (R := wants (fun r s₂ => r = .none ∧ ∃ h' tk, s₂ = { s with heap := h', toks := tk } ∧
          h'.SetOf (mixKind prog w) s.heap.objs.size (inK (uq xs)) (uq xs).length ∧ ∀ b o, b < s.heap.objs.size → s.heap.get? b = some o → h'.get? b = some o) E)
        PySem.F.called_set.init.plain PySem.F.entry_set_init (check_set_init_1 hT ?_)) fun r₂ s₂ hr₂ => ?_
      · obtain ⟨⟨ocls, odict, odata, oslots⟩, hol, hcl⟩ := src.ob
        simp only at hcl
        subst hcl
        have hol' : (s.heap.push (freshSet led)).get? l = some { cls := .type T, dict := odict, data := odata, slots := oslots } := Heap.get?_push_of_some _ hol
        have m8 := src.sub1
        have m9 := src.sub2
        have m10 := src.nd
        unfold Builtin.«set.__init__» noKeywords Builtin.Frozenset.updateFrom
        generalize hPI : pyIter = PI
        wp_walk
        subst hPI
        refine src.it _ led _ _ (by simp [hh]) fun s2 I fp wr G P St g1 g2 W st hS2 k2 hw hval hsame => ?_
        refine wpAny_bind (wpAny_runValue ?_)
        refine fill_texts W s.heap.objs.size hS2 xs rfl hn hval (xs.length - 0) 0 _ (by omega) (Nat.zero_le _) st ?hS0 ?hR
        case hS0 =>
          have g0 : s2.heap.get? s.heap.objs.size = some (freshSet led) := k2 _ _ hS
          show s2.heap.SetOf (mixKind prog w) s.heap.objs.size (fun _ => false) 0
          exact ⟨_, #[], 0, _, g0, ⟨rfl, rfl, rfl⟩, rfl, fun e he => by simp at he, fun k => by simp, by decide, by rfl, rfl⟩
        case hR =>
          intro s' hm hS'
          obtain ⟨hp', g', d', tk', os'⟩ := s'
          obtain ⟨q1, q2, q3⟩ := hsame
          have eg : g' = s.gens := (g2 _ _ hm.gens).trans q1
          have ed : d' = s.drawn := hm.drawn.trans q2
          have eo : os' = s.os := hm.os.trans q3
          subst eg ed eo
          refine wpAny_pure ?_
          show wpAny _ _ (ret Value.none) _ _ _
          refine wpAny_pure ⟨rfl, hp', tk', rfl, hS', fun b o hb e => ?_⟩
          refine hm.heap b o (fun hmem => ?_) (k2 b o (Heap.get?_push_of_some _ e))
          rcases List.mem_cons.mp hmem with z | z
          · exact absurd (z ▸ hb) (Nat.lt_irrefl _)
          · exact absurd (hw b z) (Nat.not_lt.mpr (Nat.le_of_lt hb))
      · cases r₂ with
        | error e => exact hr₂
        | ok fl₂ =>
          cases fl₂ with
          | ret r =>
            obtain ⟨rfl, h', tk, rfl, hS', hk'⟩ := hr₂
            repeat (any_goals (first | assumption | wp_step))
            exact h _ _ hS' hk'
          | _ => exact hr₂.elim
    | _ => exact hr.elim
end
end Wr

set_option Elab.async false
set_option linter.all false
set_option maxRecDepth 100000
set_option maxHeartbeats 8000000
namespace Wr
open PySem PySem.Spec PyProof.Rows L2 Evl
theorem strs_val : ∀ {xs : List Str} {us : List Value} {i : Nat} {v : Value}, Vals (xs.map V.str) us → us[i]? = some v → ∃ x t, xs[i]? = some x ∧ v = .str x t
  | [], _, i, v, .nil, h => by simp at h
  | x :: xs, _, 0, v, .cons r _, h => by
    obtain ⟨t, e⟩ := r
    have h' := Option.some.inj h
    exact ⟨x, t, rfl, by rw [← h', e]⟩
  | x :: xs, _, i + 1, v, .cons _ r, h => by
    obtain ⟨y, t, h1, h2⟩ := strs_val r (i := i) (v := v) h
    exact ⟨y, t, h1, h2⟩
section
variable {prog : Program} {w : World} {A : Around} {E : Value → Shared → Prop} {s : Shared}
theorem src_list {l : Addr} {items : Array Value} {xs : List Str} (hl : s.heap.IsList l items) (hi : Vals (xs.map V.str) items.toList) : SetSrc prog w "list" l xs s where
  sub1 := PySem.F.sub_list_set
  sub2 := PySem.F.sub_list_frozenset
  nd := by decide
  ob := by
    obtain ⟨o, ho, hc, _⟩ := hl
    exact ⟨o, ho, hc⟩
  it := fun A led Q E hh k => by
    have hl1 : (s.heap.push (freshSet led)).IsList l items := by
      obtain ⟨o, ho, r⟩ := hl
      exact ⟨o, Heap.get?_push_of_some _ ho, r⟩
    have hls : l < s.heap.objs.size := by
      obtain ⟨o, ho, _⟩ := hl
      exact Heap.lt_size ho
    refine wpAny_pyIter_list hl1 ?_
    have hz : (s.heap.push (freshSet led)).objs.size = s.heap.objs.size + 1 := Heap.size_push ..
    have hne : l ≠ (s.heap.push (freshSet led)).objs.size := by
      rw [hz]
      exact Nat.ne_of_lt (Nat.lt_succ_of_lt hls)
    have hlen : xs.length = items.size := by
      have := hi.length
      rw [List.length_map, Array.length_toList] at this
      exact this
    have W := ((Walks.list (prog := prog) (w := w) (A := A.in1) hh _ l hne items).toS)
    rw [← hlen] at W
    refine k _ _ _ _ (fun a b => b = a) _ _ (fun _ => rfl) (fun _ _ e => e) W ?_ ?_ (fun b o e => Heap.get?_push_of_some _ e) ?_ ?_ ⟨rfl, rfl, rfl⟩
    · exact ⟨⟨_, Heap.get?_push_size _ rfl, rfl, rfl⟩, hl1.push _⟩
    · rw [hz]
      simp only [List.mem_cons, List.not_mem_nil, or_false, not_or]
      exact ⟨Nat.ne_of_lt (Nat.lt_succ_self _), Nat.ne_of_gt hls⟩
    · intro b hb
      rw [hz] at hb
      rw [List.mem_singleton.mp hb]
      exact Nat.lt_succ_self _
    · intro i v hv
      have hv' : items.toList[i]? = some v := by
        rw [Array.getElem?_toList]
        exact hv
      exact strs_val hi hv'
theorem src_tuple {l : Addr} {items : Array Value} {xs : List Str} (hl : s.heap.IsTuple l items) (hi : Vals (xs.map V.str) items.toList) : SetSrc prog w "tuple" l xs s where
  sub1 := PySem.F.sub_tuple_set
  sub2 := PySem.F.sub_tuple_frozenset
  nd := by decide
  ob := by
    obtain ⟨o, ho, hc, _⟩ := hl
    exact ⟨o, ho, hc⟩
  it := fun A led Q E hh k => by
    have hl1 : (s.heap.push (freshSet led)).IsTuple l items := by
      obtain ⟨o, ho, r⟩ := hl
      exact ⟨o, Heap.get?_push_of_some _ ho, r⟩
    have hls : l < s.heap.objs.size := by
      obtain ⟨o, ho, _⟩ := hl
      exact Heap.lt_size ho
    refine wpAny_pyIter_tuple hl1 ?_
    have hz : (s.heap.push (freshSet led)).objs.size = s.heap.objs.size + 1 := Heap.size_push ..
    have hne : l ≠ (s.heap.push (freshSet led)).objs.size := by
      rw [hz]
      exact Nat.ne_of_lt (Nat.lt_succ_of_lt hls)
    have hlen : xs.length = items.size := by
      have := hi.length
      rw [List.length_map, Array.length_toList] at this
      exact this
    have W := ((Walks.tuple (prog := prog) (w := w) (A := A.in1) hh _ l hne items).toS)
    rw [← hlen] at W
    refine k _ _ _ _ (fun a b => b = a) _ _ (fun _ => rfl) (fun _ _ e => e) W ?_ ?_ (fun b o e => Heap.get?_push_of_some _ e) ?_ ?_ ⟨rfl, rfl, rfl⟩
    · exact ⟨⟨_, Heap.get?_push_size _ rfl, rfl, rfl⟩, hl1.push _⟩
    · rw [hz]
      simp only [List.mem_cons, List.not_mem_nil, or_false, not_or]
      exact ⟨Nat.ne_of_lt (Nat.lt_succ_self _), Nat.ne_of_gt hls⟩
    · intro b hb
      rw [hz] at hb
      rw [List.mem_singleton.mp hb]
      exact Nat.lt_succ_self _
    · intro i v hv
      have hv' : items.toList[i]? = some v := by
        rw [Array.getElem?_toList]
        exact hv
      exact strs_val hi hv'
end
/-! ### the rules -/
def rSetS (K : PySem.W.Frag) (P : Program) (w : World) : List V → Hp → VK → Prop := fun vs H Q => ∃ l, ∃ xs : List Str, vs = [.ref l] ∧ (SqL K H l (xs.map V.str) ∨ SqT K H l (xs.map V.str)) ∧ xs.length ≤ 1000 ∧
  ∀ p, H p = none → Q (.ref p) (upd H p (SetK P w p (inK (uq xs)) (uq xs).length))
theorem cr_setS {X : Cx} (hc : X.calm = true) : CallR X (.type "set") (rSetS X.K X.prog X.w) := by
  intro pins s σ H vs us Q I r h
  obtain ⟨l, xs, rfl, hq, hl, q⟩ := h
  rw [Vals.ref1 r]
  have hsc : xs.length + 1 < scanBound := by unfold scanBound; omega
  have fin : ∀ (h' : Heap) (tk : Nat), h'.SetOf (mixKind X.prog X.w) s.heap.objs.size (inK (uq xs)) (uq xs).length →
      (∀ b o, b < s.heap.objs.size → s.heap.get? b = some o → h'.get? b = some o) → EP X pins σ Q (.ref s.heap.objs.size) { s with heap := h', toks := tk } := fun h' tk new k =>
    ⟨.ref _, upd H s.heap.objs.size (SetK X.prog X.w s.heap.objs.size (inK (uq xs)) (uq xs).length), I.laid (t' := tk) (fun b u e => k b u (Heap.lt_size e) e) (Nat.le_refl _) (setK_new new), rfl, q _ (I.hok.fresh (Nat.le_refl _))⟩
  rcases hq with hq | hq
  · obtain ⟨its, rv, pl, hz⟩ := I.list hq
    exact set_call (I.ok.hd hc) (src_list pl.isList (by simpa using rv)) hsc fin
  · obtain ⟨its, rv, pl, hz⟩ := I.tuple hq
    exact set_call (I.ok.hd hc) (src_tuple pl (by simpa using rv)) hsc fin
def rLenK (P : Program) (w : World) : List V → Hp → VK → Prop := fun vs H Q => ∃ a S n, vs = [.ref a] ∧ H a = some (SetK P w a S n) ∧ n ≤ 1000000 ∧ Q (.int (n : Nat)) H
theorem call_lenK {X : Cx} : CallR X (.builtin "len") (rLenK X.prog X.w) := by
  intro pins s σ H vs us Q I r h
  obtain ⟨a, S, n, rfl, ha, hn, q⟩ := h
  rw [Vals.ref1 r]
  obtain ⟨o, es, ep, t, ho, hex, hd, _, _, _, hf, hn'⟩ := setK_get I ha
  refine call_len_set ho hex hd hf (by rw [hn']; omega) ⟨.int (n : Nat), H, I.tok _, ⟨_, by rw [hn']⟩, q⟩
section
variable {K : PySem.W.Frag} {b : List Addr} {σ : L2.St} {H H' : Hp} {ta : TE} {P : Program} {w : World}
theorem ed_lenSet {d : PyData} {xs : List Str} (ha : ED K b ta σ H d) (hd : d = .list (xs.map PyData.str) ∨ d = .tuple (xs.map PyData.str)) (hl : xs.length ≤ 1000) :
    ED K b (tCB (rLenK P w) (tCons (tCB (rSetS K P w) (tCons ta tNil)) tNil)) σ H (.int ((uq xs).length : Nat)) := fun H1 x1 Q q =>
  ha H1 x1 _ fun x H2 x2 hx => by
    have hx' := hx.dd
    have fin : ∀ a, (SqL K H2 a (xs.map V.str) ∨ SqT K H2 a (xs.map V.str)) → x = .ref a → tCB (rLenK P w) (tCons (tCB (rSetS K P w) (tCons (tC x) tNil)) tNil) σ H2 Q := fun a hs e => by
      subst e
      refine ⟨a, xs, rfl, hs, hl, fun p hp => ⟨p, _, _, rfl, upd_same, ?_, q _ _ (x2.trans (Ex.new hp)) (.int _)⟩⟩
      have := uq_length_le xs
      omega
    rcases hd with rfl | rfl
    · cases hx' with
      | lst h1 h2 =>
        rw [dps_strs h2] at h1
        exact fin _ (.inl h1) rfl
    · cases hx' with
      | tup h1 _ h2 =>
        rw [dps_strs h2] at h1
        exact fin _ (.inr h1) rfl
end
end Wr

set_option Elab.async false
set_option linter.all false
set_option maxRecDepth 100000
set_option maxHeartbeats 4000000
namespace Wr
open PySem PySem.Spec PyProof.Rows L2 Evl
theorem pe_tyN {X : Cx} {x : Str} {T : String} {pos : Pos} (hg : Gl X x) (hm : X.mg x = none) (hv : bootBuiltins x = some (.type T)) (hn : x ≠ "__name__" := by decide) (hd : (x == ("__debug__" : Str)) = false := by decide) : PE X (.Name x pos) (tC (.ty T)) := pe_bltn hg hm hv rfl hn hd
theorem bt_int : bootBuiltins "int" = some (.type "int") := by decide +kernel
theorem bt_bool : bootBuiltins "bool" = some (.type "bool") := by decide +kernel
theorem bt_str : bootBuiltins "str" = some (.type "str") := by decide +kernel
theorem bt_tuple : bootBuiltins "tuple" = some (.type "tuple") := by decide +kernel
theorem bt_list : bootBuiltins "list" = some (.type "list") := by decide +kernel
theorem bt_set : bootBuiltins "set" = some (.type "set") := by decide +kernel
theorem bb_isinstance : bootBuiltins "isinstance" = some (.builtin "isinstance") := by decide +kernel
theorem bb_len : bootBuiltins "len" = some (.builtin "len") := by decide +kernel
theorem bb_all : bootBuiltins "all" = some (.builtin "all") := by decide +kernel
theorem bb_abs : bootBuiltins "abs" = some (.builtin "abs") := by decide +kernel
theorem bb_max : bootBuiltins "max" = some (.builtin "max") := by decide +kernel
theorem bb_min : bootBuiltins "min" = some (.builtin "min") := by decide +kernel
theorem bb_repr : bootBuiltins "repr" = some (.builtin "repr") := by decide +kernel
theorem bb_sorted : bootBuiltins "sorted" = some (.builtin "sorted") := by decide +kernel
/-- what a def of one, two, three, four data takes -/
theorem one_of {K : PySem.W.Frag} {H : Hp} {vs : List V} {ds : List PyData} (h : DdAll K H vs ds) (hl : ds.length = 1) : ∃ v d, vs = [v] ∧ ds = [d] ∧ Dd K H v d := by
  match ds, hl, h with
  | [d], _, .cons h1 .nil => exact ⟨_, d, rfl, rfl, h1⟩
theorem two_of {K : PySem.W.Frag} {H : Hp} {vs : List V} {ds : List PyData} (h : DdAll K H vs ds) (hl : ds.length = 2) : ∃ v v2 d d2, vs = [v, v2] ∧ ds = [d, d2] ∧ Dd K H v d ∧ Dd K H v2 d2 := by
  match ds, hl, h with
  | [d, d2], _, .cons h1 (.cons h2 .nil) => exact ⟨_, _, d, d2, rfl, rfl, h1, h2⟩
theorem four_of {K : PySem.W.Frag} {H : Hp} {vs : List V} {ds : List PyData} (h : DdAll K H vs ds) (hl : ds.length = 4) : ∃ v v2 v3 v4 d d2 d3 d4, vs = [v, v2, v3, v4] ∧ ds = [d, d2, d3, d4] ∧ Dd K H v d ∧ Dd K H v2 d2 ∧ Dd K H v3 d3 ∧ Dd K H v4 d4 := by
  match ds, hl, h with
  | [d, d2, d3, d4], _, .cons h1 (.cons h2 (.cons h3 (.cons h4 .nil))) => exact ⟨_, _, _, _, d, d2, d3, d4, rfl, rfl, h1, h2, h3, h4⟩
theorem spP_len {K : PySem.W.Frag} {n : Nat} {pre : List PyData → Prop} {f : List PyData → PyData} (hl : ∀ ds, pre ds → ds.length = n) {vs : List V} {H : Hp} {Q : VK} {E : XK} (h : spP K pre f vs H Q E) : vs.length = n := by
  obtain ⟨b, ds, _, hd, hp, _⟩ := h
  rw [dps_len hd, hl ds hp]
/-- data that are small enough to be looked at -/
structure Nice (d : PyData) : Prop where
  sh : SeqAt.shaped d = true
end Wr

set_option Elab.async false
set_option linter.all false
set_option maxRecDepth 100000
set_option maxHeartbeats 4000000
namespace Wr
open PySem PySem.Spec PyProof.Rows L2 Evl
/-! ### data within bounds -/
def okD : Nat → PyData → Bool
  | _, .none => true
  | _, .bool _ => true
  | _, .int i => decide (i.natAbs < 10 ^ 45)
  | _, .str x => PyData.strOk x && decide (x.length ≤ 1000)
  | n + 1, .list ds => decide (ds.length ≤ 1000) && ds.all (okD n)
  | n + 1, .tuple ds => decide (ds.length ≤ 1000) && ds.all (okD n)
  | _, _ => false
theorem lay_all : ∀ {ds : List PyData}, (∀ d ∈ ds, d.canLay0 = true) → PyData.canLayAll0 ds = true
  | [], _ => by simp only [PyData.canLayAll0]
  | d :: ds, h => by
    simp only [PyData.canLayAll0, h d List.mem_cons_self, lay_all fun e he => h e (List.mem_cons_of_mem _ he), Bool.and_self]
theorem depth_all {n : Nat} : ∀ {ds : List PyData}, (∀ d ∈ ds, d.depth ≤ n) → PyData.depthAll ds ≤ n
  | [], _ => by simp only [PyData.depthAll]; exact Nat.zero_le _
  | d :: ds, h => by
    have h1 := h d List.mem_cons_self
    have h2 := depth_all fun e he => h e (List.mem_cons_of_mem _ he)
    simp only [PyData.depthAll]
    omega
theorem show_all : ∀ {ds : List PyData}, (∀ d ∈ ds, d.showable = true) → PyData.showableAll ds = true
  | [], _ => by simp only [PyData.showableAll]
  | d :: ds, h => by
    simp only [PyData.showableAll, h d List.mem_cons_self, show_all fun e he => h e (List.mem_cons_of_mem _ he), Bool.and_self]
theorem log_small {i : Int} (h : i.natAbs < 10 ^ 45) : i.natAbs.log2 < 1920 := by
  by_cases h0 : i.natAbs = 0
  · rw [h0]; decide
  · have h1 : i.natAbs < 2 ^ 1920 := Nat.lt_trans h (by decide)
    exact (Nat.log2_lt h0).mpr h1
theorem ok_facts : ∀ (n : Nat) (d : PyData), okD n d = true → d.canLay0 = true ∧ d.depth ≤ n ∧ d.showable = true
  | _, .none, _ => by refine ⟨by simp only [PyData.canLay0], by simp only [PyData.depth]; exact Nat.zero_le _, by simp only [PyData.showable]⟩
  | _, .bool _, _ => by refine ⟨by simp only [PyData.canLay0], by simp only [PyData.depth]; exact Nat.zero_le _, by simp only [PyData.showable]⟩
  | n, .int i, h => by
    refine ⟨by simp only [PyData.canLay0], by simp only [PyData.depth]; exact Nat.zero_le _, ?_⟩
    have h' : decide (i.natAbs < 10 ^ 45) = true := by
      cases n <;> exact h
    simp only [PyData.showable]
    exact decide_eq_true (log_small (of_decide_eq_true h'))
  | n, .str x, h => by
    have h' : (PyData.strOk x && decide (x.length ≤ 1000)) = true := by cases n <;> exact h
    refine ⟨?_, by simp only [PyData.depth]; exact Nat.zero_le _, by simp only [PyData.showable]⟩
    simp only [PyData.canLay0]
    exact (Bool.and_eq_true_iff.mp h').1
  | 0, .list ds, h => by cases h
  | 0, .tuple ds, h => by cases h
  | n + 1, .list ds, h => by
    have h' := List.all_eq_true.mp (Bool.and_eq_true_iff.mp (show (decide (ds.length ≤ 1000) && ds.all (okD n)) = true from h)).2
    have q := fun d hd => ok_facts n d (h' d hd)
    refine ⟨?_, ?_, ?_⟩
    · simp only [PyData.canLay0]
      exact lay_all fun d hd => (q d hd).1
    · simp only [PyData.depth]
      exact Nat.succ_le_succ (depth_all fun d hd => (q d hd).2.1)
    · simp only [PyData.showable]
      exact show_all fun d hd => (q d hd).2.2
  | n + 1, .tuple ds, h => by
    have h' := List.all_eq_true.mp (Bool.and_eq_true_iff.mp (show (decide (ds.length ≤ 1000) && ds.all (okD n)) = true from h)).2
    have q := fun d hd => ok_facts n d (h' d hd)
    refine ⟨?_, ?_, ?_⟩
    · simp only [PyData.canLay0]
      exact lay_all fun d hd => (q d hd).1
    · simp only [PyData.depth]
      exact Nat.succ_le_succ (depth_all fun d hd => (q d hd).2.1)
    · simp only [PyData.showable]
      exact show_all fun d hd => (q d hd).2.2
  | 0, .dict _, h => by cases h
  | _ + 1, .dict _, h => by cases h
theorem ok_shaped {n : Nat} {d : PyData} (h : okD n d = true) (hn : n ≤ 64 := by omega) : SeqAt.shaped d = true := by
  obtain ⟨h1, h2, _⟩ := ok_facts n d h
  show (d.canLay0 && decide (d.depth ≤ 64)) = true
  rw [h1, decide_eq_true (by omega)]
  rfl
theorem ok_items {n : Nat} {ds : List PyData} (h : okD (n + 1) (.tuple ds) = true) : ∀ d ∈ ds, okD n d = true :=
  List.all_eq_true.mp (Bool.and_eq_true_iff.mp (show (decide (ds.length ≤ 1000) && ds.all (okD n)) = true from h)).2
theorem ok_itemsL {n : Nat} {ds : List PyData} (h : okD (n + 1) (.list ds) = true) : ∀ d ∈ ds, okD n d = true :=
  List.all_eq_true.mp (Bool.and_eq_true_iff.mp (show (decide (ds.length ≤ 1000) && ds.all (okD n)) = true from h)).2
theorem ok_len {n : Nat} {ds : List PyData} (h : okD n (.tuple ds) = true) : ds.length ≤ 1000 := by
  cases n with
  | zero => cases h
  | succ n => exact of_decide_eq_true (Bool.and_eq_true_iff.mp (show (decide (ds.length ≤ 1000) && ds.all (okD n)) = true from h)).1
theorem ok_lenL {n : Nat} {ds : List PyData} (h : okD n (.list ds) = true) : ds.length ≤ 1000 := by
  cases n with
  | zero => cases h
  | succ n => exact of_decide_eq_true (Bool.and_eq_true_iff.mp (show (decide (ds.length ≤ 1000) && ds.all (okD n)) = true from h)).1
theorem ok_str {n : Nat} {x : Str} (h : okD n (.str x) = true) : x.length ≤ 1000 := by
  have h' : (PyData.strOk x && decide (x.length ≤ 1000)) = true := by cases n <;> exact h
  exact of_decide_eq_true (Bool.and_eq_true_iff.mp h').2
theorem ok_mono : ∀ (n : Nat) (d : PyData), okD n d = true → okD (n + 1) d = true
  | _, .none, _ => rfl
  | _, .bool _, _ => rfl
  | n, .int i, h => by cases n <;> exact h
  | n, .str x, h => by cases n <;> exact h
  | 0, .list ds, h => by cases h
  | 0, .tuple ds, h => by cases h
  | n + 1, .list ds, h => by
    have h' : (decide (ds.length ≤ 1000) && ds.all (okD n)) = true := h
    show (decide (ds.length ≤ 1000) && ds.all (okD (n + 1))) = true
    rw [Bool.and_eq_true] at h' ⊢
    exact ⟨h'.1, List.all_eq_true.mpr fun d hd => ok_mono n d (List.all_eq_true.mp h'.2 d hd)⟩
  | n + 1, .tuple ds, h => by
    have h' : (decide (ds.length ≤ 1000) && ds.all (okD n)) = true := h
    show (decide (ds.length ≤ 1000) && ds.all (okD (n + 1))) = true
    rw [Bool.and_eq_true] at h' ⊢
    exact ⟨h'.1, List.all_eq_true.mpr fun d hd => ok_mono n d (List.all_eq_true.mp h'.2 d hd)⟩
  | 0, .dict _, h => by cases h
  | _ + 1, .dict _, h => by cases h
theorem ok_up {n m : Nat} {d : PyData} (h : okD n d = true) (hm : n ≤ m) : okD m d = true := by
  obtain ⟨k, rfl⟩ := Nat.exists_eq_add_of_le hm
  induction k with
  | zero => exact h
  | succ k ih => exact ok_mono _ _ (ih (Nat.le_add_right _ _))
theorem isD_tuple {d : PyData} (h : isD "tuple" d = true) : ∃ ds, d = .tuple ds := by
  cases d <;> first | exact ⟨_, rfl⟩ | (simp [isD, dTy, tyIs] at h)
theorem isD_list {d : PyData} (h : isD "list" d = true) : ∃ ds, d = .list ds := by
  cases d <;> first | exact ⟨_, rfl⟩ | (simp [isD, dTy, tyIs] at h)
theorem isD_str {d : PyData} (h : isD "str" d = true) : ∃ x, d = .str x := by
  cases d <;> first | exact ⟨_, rfl⟩ | (simp [isD, dTy, tyIs] at h)
/-! ### the program's own functions, on data -/
def wholeD (d : PyData) : Bool := isD "int" d && !isD "bool" d
theorem wholeD_int {d : PyData} (h : wholeD d = true) : ∃ i, d = .int i := by
  cases d <;> first | exact ⟨_, rfl⟩ | (simp [wholeD, isD, dTy, tyIs] at h)
def worthD (d : PyData) : Bool := match d with
  | .int i => decide (-1000000000000 ≤ i) && decide (i ≤ 1000000000000)
  | _ => false
def indexD (d : PyData) (n : Int) : Bool := match d with
  | .int i => decide (0 ≤ i) && decide (i < n)
  | _ => false
def nameS (x : Str) : Bool := decide (x.length ≤ 8) && (Txt.isascii x && (Txt.isalpha x && Txt.islower x))
def nameD (d : PyData) : Bool := match d with
  | .str x => nameS x
  | _ => false
def strsOf (ds : List PyData) : List Str := ds.filterMap fun d => match d with
  | .str x => some x
  | _ => none
def unlikeS (xs : List Str) : Bool := decide ((uq xs).length = xs.length)
def namesD (d : PyData) : Bool := match d with
  | .tuple ds => decide (ds.length ≤ 3) && (ds.all nameD && unlikeS (strsOf ds))
  | _ => false
def headedD (d : PyData) : Bool := match d with
  | .tuple [a, c, _] => nameD a && namesD c
  | _ => false
def fst (d : PyData) : PyData := match d with
  | .tuple (a :: _) => a
  | _ => .none
def thd (d : PyData) : PyData := match d with
  | .tuple (_ :: _ :: a :: _) => a
  | _ => .none
def headedAll (d : PyData) (most : Int) : Bool := match d with
  | .tuple ds => (decide (1 ≤ ds.length) && decide ((ds.length : Int) ≤ most)) && (ds.all headedD && unlikeS (strsOf (ds.map fst)))
  | _ => false
def loneW : List Str := ["add", "less", "times", "over", "same", "below", "twin", "swap", "away", "say", "back", "throw", "done", "lead", "turn"]
def nameW : List Str := ["get", "set", "look", "change"]
def rowW : List Str := ["go", "if", "try"]
def rowD (d : PyData) (at_ many : Int) (called : List Str) : Bool := match d with
  | .tuple [a] => inD a (loneW.map .str)
  | .tuple [a, c] =>
    if PyData.eqv a (.str "put") = true then worthD c
    else if inD a (nameW.map .str) = true then nameD c
    else if PyData.eqv a (.str "call") = true then inD c (called.map .str)
    else inD a (rowW.map .str) && (indexD c many && !(PyData.eqv a (.str "try") && PyData.eqv c (.int (at_ + 1))))
  | _ => false
def rowsD (d : PyData) (called : List Str) : Bool := match d with
  | .tuple ds => (decide (1 ≤ ds.length) && decide (ds.length ≤ 60)) && ((List.range ds.length).all fun i => rowD (ds.getD i .none) i ds.length called)
  | _ => false
def progD (d : PyData) : Bool := match d with
  | .tuple ds => headedAll (.tuple ds) 8 && ds.all fun p => rowsD (thd p) (strsOf (ds.map fst))
  | _ => false
end Wr

set_option Elab.async false
set_option linter.all false
set_option maxRecDepth 100000
set_option maxHeartbeats 4000000
namespace Wr
open PySem PySem.Spec PyProof.Rows L2 Evl
section
variable {K : PySem.W.Frag} {b : List Addr} {σ : L2.St} {H H' : Hp} {ta te : TE} {tt : TT} {d : PyData} {ds : List PyData}
theorem et_n {c : Bool} (h : EvT tt σ H c) : EvT (tNot tt) σ H (!c) := fun H1 x Q q => h H1 x _ fun H2 x2 => q H2 x2
theorem ed_m0 {C : Str → Prop} {g : Str → V} {x : Str} {z : PyData} (ha : ED K b ta σ H (.str x)) (hc : C x) (hz : ∀ H', Dq K b H' (g x) z) : ED K b (tBM0 K "str" (fun x xs H Q => ∃ a, x = .str a ∧ xs = [] ∧ C a ∧ Q (g a) H) ta) σ H z := fun H1 x1 Q q =>
  ha H1 x1 _ fun v H2 x2 hv => by
    cases hv
    exact ⟨rfl, x, rfl, rfl, hc, q _ H2 x2 (hz _)⟩
end
theorem pe_gI {X : Cx} {x : Str} {i : Int} {t : Tok} {pos : Pos} (hm : X.mg x = some (.int i t)) (hg : Gl X x := by rfl) (hd : (x == ("__debug__" : Str)) = false := by decide) : PE X (.Name x pos) (tC (.int i)) := pe_glob hg hm ⟨t, rfl⟩ hd
theorem pe_gR {X : Cx} {x : Str} {a : Addr} {pos : Pos} (hm : X.mg x = some (.ref a)) (hg : Gl X x := by rfl) (hd : (x == ("__debug__" : Str)) = false := by decide) : PE X (.Name x pos) (tC (.ref a)) := pe_glob hg hm rfl hd
/-- the built-ins that the text uses are still the built-ins -/
structure Blt (mg : Str → Option Value) : Prop where
  isi : mg "isinstance" = none
  len : mg "len" = none
  all : mg "all" = none
  enum : mg "enumerate" = none
  set : mg "set" = none
  int : mg "int" = none
  bool : mg "bool" = none
  str : mg "str" = none
  tuple : mg "tuple" = none
  list : mg "list" = none
  range : mg "range" = none
/-- a def of the text -/
structure Def (K : PySem.W.Frag) (mg : Str → Option Value) (x : Str) (st : Stmt) (ps : List Str) (f : Addr) (fd : FuncData) : Prop where
  F : Fun K x x st f fd
  b : Binds K fd ps []
  m : mg x = some (.ref f)
theorem pe_cd {X : Cx} {x : Str} {st : Stmt} {k : Nat} {ps : List Str} {sp : Sp} {f : Addr} {fd : FuncData} {p pos : Pos} {e : Expr} {es : List Expr} {t : TA} (D : Def X.K X.mg x st ps f fd) (G : FnOk X.prog X.w X.K X.mg X.base CX0 k f fd ps sp) (hr : Room k X.A) (ha : PA X (e :: es) t)
    (hg : Gl X x := by rfl) (hdb : (x == ("__debug__" : Str)) = false := by decide) (he : starEach (e :: es) X.env = (false, eval e X.env) :: starEach es X.env := by rfl) (hpl : (backTo pos (starEach es X.env)).any (·.1) = false := by rfl) :
    PE X (.Call (.Name x p) (e :: es) [] pos) (tCall sp [] E0 t) := pe_call G hr hg D.m D.F.kp D.b .nil pass0 ha hdb he hpl
def topS (i : Nat) : Stmt := PySem.Challenge.pw_watchedrun_k08_trees_made.main.body.getD i (.Pass ⟨0, 0, 0, 0⟩)
/-- one datum, a truth -/
def F1 (g : PyData → Bool) (ds : List PyData) : PyData := match ds with
  | [d] => .bool (g d)
  | _ => .none
def F2 (g : PyData → PyData → Bool) (ds : List PyData) : PyData := match ds with
  | [d, e] => .bool (g d e)
  | _ => .none
def intOf (d : PyData) : Int := match d with
  | .int i => i
  | _ => 0
section
variable {P : Program} {w : World} {K : PySem.W.Frag} {mg : Str → Option Value} {base : Heap} {f g g2 g3 : Addr} {fd gd gd2 gd3 : FuncData}
end
end Wr

set_option Elab.async false
set_option linter.all false
set_option maxRecDepth 100000
set_option maxHeartbeats 4000000
namespace Wr
open PySem PySem.Spec PyProof.Rows L2 Evl
theorem hu64 {A : Around} {k : Nat} (hr : Room k A) : A.units + 64 < cLine := hr.units
theorem hu65 {A : Around} {k : Nat} (hr : Room k A) : A.units + 65 < cLine := by have := hr.un; omega
section
variable {K : PySem.W.Frag} {b : List Addr} {σ : L2.St} {H H' : Hp} {ta te : TE} {tt : TT} {d : PyData} {ds : List PyData}
theorem all_map {α : Type} (xs : List α) (g : α → Bool) : (xs.map g).all id = xs.all g := by
  rw [List.all_map]
  rfl
theorem ed_allT {k : Nat} {g : PyData → Bool} (kn : Kn b H) (ha : ED K b ta σ H (.tuple ds)) (hl : ds.length ≤ 1000)
    (he : ∀ d v H3, d ∈ ds → Ex H H3 → Dq K b H3 v d → ED K b te ((wipe σ [k]).set k (some v)) H3 (.bool (g d))) :
    ED K b (tCB (rAll K) (tCons (tLc (iTup K ta) (gName k) tYes te [k]) tNil)) σ H (.bool (ds.all g)) := by
  have h := ed_lcT1 (K := K) (b := b) (k := k) (f := fun d => .bool (g d)) kn ha (Nat.lt_of_le_of_lt hl (by decide)) he fun _ _ => rfl
  have e : ds.map (fun d => PyData.bool (g d)) = (ds.map g).map PyData.bool := by rw [List.map_map]; rfl
  exact (ed_all (h.to (by rw [e]))).to (by rw [all_map])
theorem eqv_int (i j : Int) : PyData.eqv (.int i) (.int j) = (i == j) := by simp only [PyData.eqv]
theorem sh_int (i : Int) : SeqAt.shaped (.int i) = true := by
  show ((PyData.int i).canLay0 && decide ((PyData.int i).depth ≤ 64)) = true
  simp only [PyData.canLay0, PyData.depth]
  rfl
theorem sh_bool (i : Bool) : SeqAt.shaped (.bool i) = true := by
  show ((PyData.bool i).canLay0 && decide ((PyData.bool i).depth ≤ 64)) = true
  simp only [PyData.canLay0, PyData.depth]
  rfl
theorem sh_none : SeqAt.shaped .none = true := by
  show (PyData.none.canLay0 && decide (PyData.none.depth ≤ 64)) = true
  simp only [PyData.canLay0, PyData.depth]
  rfl
theorem strsOf_map (xs : List Str) : strsOf (xs.map PyData.str) = xs := by
  induction xs with
  | nil => rfl
  | cons x r ih =>
    show (x :: strsOf (r.map PyData.str)) = x :: r
    rw [ih]
theorem map_strsOf : ∀ {ds : List PyData}, ds.all (isD "str") = true → (strsOf ds).map PyData.str = ds
  | [], _ => rfl
  | d :: ds, h => by
    rw [List.all_cons, Bool.and_eq_true] at h
    obtain ⟨x, rfl⟩ := isD_str h.1
    show PyData.str x :: (strsOf ds).map PyData.str = .str x :: ds
    rw [map_strsOf h.2]
theorem nameD_str {d : PyData} (h : nameD d = true) : isD "str" d = true := by
  cases d <;> first | rfl | cases h
theorem names_strs {ds : List PyData} (h : ds.all nameD = true) : ds.all (isD "str") = true :=
  List.all_eq_true.mpr fun d hd => nameD_str (List.all_eq_true.mp h d hd)
theorem strsOf_len {ds : List PyData} : (strsOf ds).length ≤ ds.length := List.length_filterMap_le _ _
end
def unlikeD (d : PyData) : Bool := match d with
  | .tuple ds => unlikeS (strsOf ds)
  | .list ds => unlikeS (strsOf ds)
  | _ => false
def StrSeq (d : PyData) : Prop := ∃ xs : List Str, xs.length ≤ 1000 ∧ (d = .list (xs.map PyData.str) ∨ d = .tuple (xs.map PyData.str))
section
variable {P : Program} {w : World} {K : PySem.W.Frag} {mg : Str → Option Value} {base : Heap} {f g g2 g3 : Addr} {fd gd gd2 gd3 : FuncData}
end
end Wr

set_option Elab.async false
set_option linter.all false
set_option maxRecDepth 100000
set_option maxHeartbeats 4000000
namespace Wr
open PySem PySem.Spec PyProof.Rows L2 Evl
section
variable {K : PySem.W.Frag} {b : List Addr} {σ : L2.St} {H H' : Hp} {ta te : TE} {tt : TT} {ts : TS} {d a c : PyData} {ds : List PyData}
theorem sr_unpack2 {i j : Nat} (h : ED K b te σ H (.tuple [a, c])) (k : ∀ v1 v2 H', Ex H H' → Dq K b H' v1 a → Dq K b H' v2 c → SR K b ts ((σ.set i (some v1)).set j (some v2)) H' d) :
    SR K b (tSeq (tAsg te (gTup K 2 (gCons (gName i) (gCons (gName j) gNil)))) ts) σ H d := fun H1 x1 D q =>
  h H1 x1 _ fun v H2 x2 hv => by
    cases hv with
    | tup h1 _ h2 =>
      cases h2 with
      | cons p1 p2 =>
        cases p2 with
        | cons p3 p4 =>
          cases p4
          exact ⟨_, _, rfl, ex_t hid_le h1, rfl, _, _, rfl, _, _, rfl, rfl, k _ _ H2 (x1.trans x2) p1 p3 H2 (Ex.refl H2) D fun z H4 x4 hz => q _ H4 (x2.trans x4) hz⟩
/-- [.. for i, x in enumerate(tuple)], flat items -/
theorem ed_lcE {k1 k2 : Nat} {f : Nat → PyData → PyData} (kn : Kn b H) (ha : ED K b ta σ H (.tuple ds)) (hl : ds.length < sizeLine)
    (hw : ∀ x y, wipe (((wipe σ [k1, k2]).set k1 x).set k2 y) [k1, k2] = wipe σ [k1, k2])
    (he : ∀ i d v H3, ds[i]? = some d → Ex H H3 → Dq K b H3 v d → ED K b te (((wipe σ [k1, k2]).set k1 (some (.int (i : Nat)))).set k2 (some v)) H3 (f i d)) (hf : ∀ i d, ds[i]? = some d → flatP (f i d) = true) :
    ED K b (tLc (iEnumT K (tCons ta tNil)) (gTup K 2 (gCons (gName k1) (gCons (gName k2) gNil))) tYes te [k1, k2]) σ H (.list ((List.range ds.length).map fun i => f i (ds.getD i .none))) := fun H1 x1 Q q =>
  ha H1 x1 _ fun x H2 x2 hx => by
    cases hx with
    | @tup a xs _ h1 _ h2 =>
      have hlen := dps_len h2
      refine ⟨a, xs, rfl, ex_t hid_le h1, fun D hD => ?_⟩
      refine lc_it walk_enumT (fun i H3 => Ex H2 H3 ∧ H3 D = some (.lst (((List.range i).map fun i => f i (ds.getD i .none)).map vOf))) ⟨Ex.new hD, upd_same⟩ (fun i H3 _ h => ex_t h.1 (ex_t hid_le h1)) ?_ ?_
      · intro i x H3 H3' hi ⟨x3, e3⟩ ⟨T, y1, y2, ex, nT, eH, g1, g2⟩
        subst ex eH
        have e1 : y1 = .int (i : Nat) := (Option.some.inj g1).symm
        subst e1
        obtain ⟨d, gd, dd⟩ := dps_at h2 g2
        have xT : Ex H3 (upd H3 T (.tup [.int (i : Nat), y2])) := Ex.new nT
        refine ⟨T, [.int (i : Nat), y2], rfl, .inl (.inl upd_same), rfl, _, _, rfl, _, _, rfl, rfl, hw _ _, ?_⟩
        refine et_yes (H := upd H3 T (.tup [.int (i : Nat), y2])) _ (Ex.refl _) _ fun H4 x4 => ?_
        rw [if_pos rfl]
        have x3' : Ex H2 H4 := (x3.trans xT).trans x4
        refine he i d y2 _ gd ((x1.trans x2).trans x3') (Dq.up dd x3') _ (Ex.refl _) _ fun y H5 x5 hy => ?_
        have ey := dp_flat hy (hf i d gd)
        have hg : ds.getD i .none = d := by rw [List.getD_eq_getElem?_getD, gd, Option.getD_some]
        refine ⟨_, x5 _ _ (x4 _ _ (xT _ _ e3)), ?_, Ex.mut (x3'.trans x5) hD, ?_⟩
        · rw [List.length_map, List.length_map, List.length_range]
          have : xs.length < sizeLine := by rw [hlen]; exact hl
          omega
        · rw [upd_same, List.range_succ, List.map_append, List.map_append, ey]
          show some (HO.lst (_ ++ [vOf (f i d)])) = some (HO.lst (_ ++ [vOf (f i (ds.getD i .none))]))
          rw [hg]
      · intro H3 ⟨x3, e3⟩
        rw [hlen] at e3
        refine q _ H3 (x2.trans x3) (.lst (.inl (.inl ?_)) (flats_dp fun d hd => ?_))
        · rw [hid_ne ((kn.up (x1.trans x2)).new hD)]
          exact e3
        · obtain ⟨i, hi, rfl⟩ := List.mem_map.mp hd
          have hi' := List.mem_range.mp hi
          have g1 : ds[i]? = some ds[i] := List.getElem?_eq_getElem hi'
          have := hf i _ g1
          simp only [List.getD_eq_getElem?_getD, g1, Option.getD_some]
          exact this
theorem atI0 {α : Type} (x : α) (r : List α) : atI (x :: r) 0 = some x := atI_nat (j := 0) rfl
theorem atI1 {α : Type} (x y : α) (r : List α) : atI (x :: y :: r) 1 = some y := atI_nat (j := 1) rfl
theorem atI2 {α : Type} (x y z : α) (r : List α) : atI (x :: y :: z :: r) 2 = some z := atI_nat (j := 2) rfl
theorem sh_str {x : Str} (h : PyData.strOk x = true) : SeqAt.shaped (.str x) = true := by
  show ((PyData.str x).canLay0 && decide ((PyData.str x).depth ≤ 64)) = true
  simp only [PyData.canLay0, PyData.depth, h]
  rfl
theorem sh_strs {xs : List Str} (h : xs.all PyData.strOk = true) : SeqAt.shaped (.tuple (xs.map .str)) = true ∧ SeqAt.shaped (.list (xs.map .str)) = true := by
  have h1 : PyData.canLayAll0 (xs.map .str) = true := lay_all fun d hd => by
    obtain ⟨x, hx, rfl⟩ := List.mem_map.mp hd
    simp only [PyData.canLay0]
    exact List.all_eq_true.mp h x hx
  have h2 : PyData.depthAll (xs.map .str) ≤ 0 := depth_all fun d hd => by
    obtain ⟨x, hx, rfl⟩ := List.mem_map.mp hd
    simp only [PyData.depth]
    exact Nat.le_refl 0
  constructor
  · show ((PyData.tuple _).canLay0 && decide ((PyData.tuple _).depth ≤ 64)) = true
    simp only [PyData.canLay0, PyData.depth, h1, Bool.true_and]
    exact decide_eq_true (by omega)
  · show ((PyData.list _).canLay0 && decide ((PyData.list _).depth ≤ 64)) = true
    simp only [PyData.canLay0, PyData.depth, h1, Bool.true_and]
    exact decide_eq_true (by omega)
end
section
variable {P : Program} {w : World} {K : PySem.W.Frag} {mg : Str → Option Value} {base : Heap} {f g g2 g3 g4 g5 : Addr} {fd gd gd2 gd3 gd4 gd5 : FuncData}
theorem headed_fst {d : PyData} (h : headedD d = true) : ∃ a c e, d = .tuple [a, c, e] ∧ nameD a = true ∧ namesD c = true := by
  unfold headedD at h
  split at h
  · rename_i a c e
    rw [Bool.and_eq_true] at h
    exact ⟨a, c, e, rfl, h.1, h.2⟩
  · cases h
end
end Wr

set_option Elab.async false
set_option linter.all false
set_option maxRecDepth 100000
set_option maxHeartbeats 4000000
namespace Wr
open PySem PySem.Spec PyProof.Rows L2 Evl
/-- the text's written tuples -/
structure Words (K : PySem.W.Frag) (mg : Str → Option Value) (aN aR aL : Addr) : Prop where
  mN : mg "NAME_WORDS" = some (.ref aN)
  mR : mg "ROW_WORDS" = some (.ref aR)
  mL : mg "LONE_WORDS" = some (.ref aL)
  kN : ∀ H, SqT K H aN (nameW.map V.str) ∧ TN K H aN
  kR : ∀ H, SqT K H aR (rowW.map V.str) ∧ TN K H aR
  kL : ∀ H, SqT K H aL (loneW.map V.str) ∧ TN K H aL
def rowF (ds : List PyData) : PyData := match ds with
  | [d, i, m, .list cs] => .bool (rowD d (intOf i) (intOf m) (strsOf cs))
  | _ => .none
def RowPre (ds : List PyData) : Prop := ds.length = 4 ∧ ∀ d i m c, ds = [d, i, m, c] → okD 30 d = true ∧ (∃ k, i = .int k) ∧ (∃ k, m = .int k) ∧ ∃ xs : List Str, xs.all PyData.strOk = true ∧ c = .list (xs.map .str)
theorem rowD_two (a c : PyData) (i m : Int) (xs : List Str) : rowD (.tuple [a, c]) i m xs = (if PyData.eqv a (.str "put") = true then worthD c
    else if inD a (nameW.map .str) = true then nameD c
    else if PyData.eqv a (.str "call") = true then inD c (xs.map .str)
    else inD a (rowW.map .str) && (indexD c m && !(PyData.eqv a (.str "try") && PyData.eqv c (.int (i + 1))))) := rfl
theorem strOk_words : (loneW ++ nameW ++ rowW).all PyData.strOk = true := by decide +kernel
theorem sh_lone : SeqAt.shaped (.tuple (loneW.map .str)) = true := (sh_strs (by decide +kernel)).1
theorem sh_nameW : SeqAt.shaped (.tuple (nameW.map .str)) = true := (sh_strs (by decide +kernel)).1
theorem sh_rowW : SeqAt.shaped (.tuple (rowW.map .str)) = true := (sh_strs (by decide +kernel)).1
theorem sh_put : SeqAt.shaped (.str "put") = true := sh_str (by decide +kernel)
theorem sh_call : SeqAt.shaped (.str "call") = true := sh_str (by decide +kernel)
theorem sh_try : SeqAt.shaped (.str "try") = true := sh_str (by decide +kernel)
section
variable {P : Program} {w : World} {K : PySem.W.Frag} {mg : Str → Option Value} {base : Heap} {f g g2 g3 g4 g5 aN aR aL : Addr} {fd gd gd2 gd3 gd4 gd5 : FuncData}
theorem ed_words {b : List Addr} {σ : L2.St} {H : Hp} {a : Addr} {xs : List Str} (h : ∀ H, SqT K H a (xs.map V.str) ∧ TN K H a) : ED K b (tC (.ref a)) σ H (.tuple (xs.map .str)) := ed_c (.tup (h _).1 (h _).2 (strs_dps xs))
def RowsPre (ds : List PyData) : Prop := ds.length = 2 ∧ ∀ d c, ds = [d, c] → okD 30 d = true ∧ ∃ xs : List Str, xs.all PyData.strOk = true ∧ c = .list (xs.map .str)
def rowsF (ds : List PyData) : PyData := match ds with
  | [d, .list cs] => .bool (rowsD d (strsOf cs))
  | _ => .none
theorem name_strOk {x : Str} (h : nameS x = true) : PyData.strOk x = true := by
  unfold nameS at h
  rw [Bool.and_eq_true, Bool.and_eq_true] at h
  have h2 : x.cps.all (· < 128) = true := h.2.1
  show x.cps.all (· < 0x110000) = true
  rw [Array.all_eq_true] at h2 ⊢
  intro i hi
  have := of_decide_eq_true (h2 i hi)
  exact decide_eq_true (by omega)
def ProgPre (ds : List PyData) : Prop := ds.length = 1 ∧ ∀ d, ds = [d] → okD 30 d = true
end
end Wr

set_option Elab.async false
set_option linter.all false
set_option maxRecDepth 100000
set_option maxHeartbeats 4000000
namespace Wr
open PySem PySem.Spec PyProof.Rows L2 Evl
/-! ### a method of a tuple -/
def tBMT (K : PySem.W.Frag) (r : V → List V → Hp → VK → Prop) (to : TE) (t : TA) : TE := fun σ H Q => to σ H fun x H1 => (∃ a xs, x = .ref a ∧ SqT K H1 a xs ∧ TN K H1 a) ∧ t σ H1 fun xs H2 => r x xs H2 Q
theorem tn_is {X : Cx} {pins : List (Addr × Obj)} {σ : L2.St} {H : Hp} {s : Shared} {a : Addr} (I : Inv X pins σ H s) (h : TN X.K H a) : ∃ o, s.heap.get? a = some o ∧ o.dict = none := by
  rcases h with ⟨o, u, h1, h2⟩ | ⟨o, h1, _, h2⟩
  · exact ⟨o, (I.hok a _ h1).1, h2⟩
  · exact ⟨o, I.kIn a o h1, h2⟩
theorem pe_bmT {X : Cx} {o e : Expr} {es : List Expr} {to : TE} {t : TA} {name : Str} {id : String} {apos cpos : Pos} {r : V → List V → Hp → VK → Prop} (slot : Slot "tuple" name id) (hty : typeOf (.builtin id) = pure (.type "method_descriptor")) (hm : MtR X id r) (ho : PE X o to) (ha : PA X (e :: es) t)
    (hbase : attributeBase o name X.env (eval o X.env) = eval o X.env := by rfl)
    (hfew : ((backTo cpos (starEach (e :: es) X.env)).all (fun x => !x.1) && (backToKw cpos (keywordEach [] X.env)).all (fun x => x.1.isSome) && decide ((e :: es).length + ([] : List Keyword).length + (if ([] : List Keyword).isEmpty then 0 else 1) < 30)) = true := by rfl)
    (hline : (apos.endLine == cpos.line) = true := by rfl) (hs : starEach (e :: es) X.env = (false, eval e X.env) :: starEach es X.env := by rfl) (hplain : (backTo cpos (starEach es X.env)).any (·.1) = false := by rfl) :
    PE X (.Call (.Attribute o name apos) (e :: es) [] cpos) (tBMT X.K r to t) := by
  refine ⟨fun pins s σ H Q I h => ?_⟩
  refine wpAny_Call_method_late hbase hfew hline rfl (thn (ho.run pins s σ H _ I h) fun v s1 ⟨x, H1, I1, r1, ty, q1⟩ => ?_)
  obtain ⟨a, xs, rfl, hq, hn⟩ := ty
  cases r1
  obtain ⟨its, rv, p, _⟩ := I1.tuple hq
  refine ⟨"tuple", id, PySem.F.plainAttrs_tuple, slot, hty, p.typeIs, fun b e => ?_, ?_⟩
  · cases e
    exact tn_is I1 hn
  · have hA := ha.run cpos pins s1 σ H1 _ I1 q1
    rw [hs] at hA ⊢
    refine Calls.callWith_builtin (by show (false || (backTo cpos (starEach es X.env)).any (·.1)) = false; rw [hplain] <;> rfl) (Calls.evalArgs_plain ?_)
    exact thn hA fun us s2 ⟨vs, H2, I2, r2, q2⟩ => hm pins s2 σ H2 (.ref a) vs (.ref a) us Q I2 rfl r2 q2
/-! ### count -/
def countD (d : PyData) (ds : List PyData) : Nat := ds.countP fun z => PyData.eqv z d
def rCountT (K : PySem.W.Frag) : V → List V → Hp → VK → Prop := fun x xs H Q => ∃ y d ds, xs = [y] ∧ Dp K H x (.tuple ds) ∧ Dp K H y d ∧ SeqAt.shaped (.tuple ds) = true ∧ SeqAt.shaped d = true ∧ Q (.int (countD d ds : Nat)) H
def rCountL (K : PySem.W.Frag) : V → List V → Hp → VK → Prop := fun x xs H Q => ∃ y d ds, xs = [y] ∧ Dp K H x (.list ds) ∧ Dp K H y d ∧ SeqAt.shaped (.list ds) = true ∧ SeqAt.shaped d = true ∧ Q (.int (countD d ds : Nat)) H
theorem count_map {h : Heap} {its : List Value} {ds : List PyData} {d : PyData} (hm : its.map (SeqAt.readOf h) = ds) : its.countP (fun u => PyData.eqv (SeqAt.readOf h u) d) = countD d ds := by
  unfold countD
  rw [← hm, List.countP_map]
  rfl
theorem mt_countT {X : Cx} (hu : X.A.units + 65 < cLine) : MtR X "tuple.count" (rCountT X.K) := by
  intro pins s σ H x xs v us Q I rx rxs ⟨y, d, ds, e1, hl, hy, sl, sd, q⟩
  subst e1
  obtain ⟨uy, rfl, ry⟩ := vals1 rxs
  obtain ⟨bs, r1⟩ := Dp.reads I d y uy hy ry
  have hxs : PyData.canLayAll0 ds = true := by
    have := SeqAt.canLay_of_shaped sl
    simpa only [PyData.canLay0] using this
  have hroom : X.A.units + 1 + min (PyData.depthAll ds) d.depth < cLine := room_in_shaped sd hu
  cases hl with
  | tup hs ha =>
    cases rx
    obtain ⟨its, rv, ⟨⟨cls, dd, data, sls⟩, ho, hc, n, hd⟩, hlen⟩ := I.tuple hs
    simp only at hc hd
    subst hc hd
    obtain ⟨as, h4⟩ := Dp.readsAll I ds _ its ha rv
    have hm := SeqAt.readsAll_map ds its as hxs h4
    refine call_meets PySem.F.slot_tuple_count ⟨_, ho, rfl⟩ PySem.F.entry_tuple_count (PySem.F.args_tuple_count_2 _ _)
      (SeqAt.tuple_countAt _ its.toArray n dd sls uy fun u => PyData.eqv (SeqAt.readOf s.heap u) d) ⟨ho, SeqAt.items_eqAt (vs := its.toArray) h4 r1 hxs (SeqAt.canLay_of_shaped sd) hroom, ?_⟩
    refine ⟨.int (countD d ds : Nat), H, I.tok _, ⟨s.toks, ?_⟩, q⟩
    rw [List.toList_toArray, count_map hm]
theorem mt_countL {X : Cx} (hu : X.A.units + 65 < cLine) : MtR X "list.count" (rCountL X.K) := by
  intro pins s σ H x xs v us Q I rx rxs ⟨y, d, ds, e1, hl, hy, sl, sd, q⟩
  subst e1
  obtain ⟨uy, rfl, ry⟩ := vals1 rxs
  obtain ⟨bs, r1⟩ := Dp.reads I d y uy hy ry
  have hxs : PyData.canLayAll0 ds = true := by
    have := SeqAt.canLay_of_shaped sl
    simpa only [PyData.canLay0] using this
  have hroom : X.A.units + 1 + min (PyData.depthAll ds) d.depth < cLine := room_in_shaped sd hu
  cases hl with
  | lst hs ha =>
    cases rx
    obtain ⟨its, rv, ⟨⟨cls, dd, data, sls⟩, n, ho, hc, hdn, hd⟩, hlen⟩ := I.list hs
    simp only at hc hd
    subst hc hd
    obtain ⟨as, h4⟩ := Dp.readsAll I ds _ its ha rv
    have hm := SeqAt.readsAll_map ds its as hxs h4
    refine call_meets PySem.F.slot_list_count ⟨_, ho, rfl⟩ PySem.F.entry_list_count (PySem.F.args_list_count_2 _ _)
      (SeqAt.list_countAt _ its.toArray n dd sls uy fun u => PyData.eqv (SeqAt.readOf s.heap u) d) ⟨ho, SeqAt.items_eqAt (vs := its.toArray) h4 r1 hxs (SeqAt.canLay_of_shaped sd) hroom, ?_⟩
    refine ⟨.int (countD d ds : Nat), H, I.tok _, ⟨s.toks, ?_⟩, q⟩
    rw [List.toList_toArray, count_map hm]
/-! ### not in range -/
def rNinR : R2 := fun x y H Q => ∃ i a lo hi, x = V.int i ∧ y = V.ref a ∧ H a = some (.rng lo hi) ∧ Q (.bl (!decide (lo ≤ i ∧ i < hi))) H
theorem op_ninR {X : Cx} : OpR X (compareOp .NotIn) rNinR := by
  intro pins s σ H x y v u Q I rx ry ⟨i, a, lo, hi, e1, e2, ha, q⟩
  subst e1 e2
  obtain ⟨k, rfl⟩ := rx
  obtain rfl : u = Value.ref a := ry
  obtain ⟨t1, t2, t3, ho⟩ := I.hok a _ ha
  show wpAny _ _ (do return Value.bool (!(← contains (Value.ref a) (Value.int i k)))) _ _ s
  refine wpAny_bind (wpAny_contains_slot (T := "range") ⟨_, ho, rfl⟩ PySem.F.slot_range_contains (call_meets PySem.F.slot_range_contains ⟨_, ho, rfl⟩ PySem.F.entry_range_contains
    (PySem.F.args_range_contains_2 _ _) (q_contains a lo hi i t1 t2 t3 k) ⟨ho, wpAny_truthy_bool (wpAny_pure ⟨.bl _, H, I, rfl, ?_⟩)⟩))
  rw [place1]
  exact q
section
variable {K : PySem.W.Frag} {b : List Addr} {σ : L2.St} {H H' : Hp} {ta tb te : TE} {tt : TT} {ts : TS} {d a c e : PyData} {ds : List PyData}
theorem ed_countT (ha : ED K b ta σ H (.tuple ds)) (hb : ED K b tb σ H d) (sl : SeqAt.shaped (.tuple ds) = true) (sd : SeqAt.shaped d = true) : ED K b (tBMT K (rCountT K) ta (tCons tb tNil)) σ H (.int (countD d ds : Nat)) := fun H1 x1 Q q =>
  ha H1 x1 _ fun x H2 x2 hx => by
    have hx' := hx
    cases hx' with
    | tup h1 hn _ =>
      exact ⟨⟨_, _, rfl, ex_t hid_le h1, hn.ex hid_le⟩, hb H2 (x1.trans x2) _ fun y H3 x3 hy => ⟨y, d, ds, rfl, (Dq.up hx x3).dp, hy.dp, sl, sd, q _ H3 (x2.trans x3) (.int _)⟩⟩
theorem ed_countL (ha : ED K b ta σ H (.list ds)) (hb : ED K b tb σ H d) (sl : SeqAt.shaped (.list ds) = true) (sd : SeqAt.shaped d = true) : ED K b (tBM K "list" (rCountL K) ta (tCons tb tNil)) σ H (.int (countD d ds : Nat)) := fun H1 x1 Q q =>
  ha H1 x1 _ fun x H2 x2 hx => by
    have hx' := hx
    cases hx' with
    | lst h1 _ =>
      exact ⟨.inl ⟨rfl, _, ex_l hid_le h1⟩, hb H2 (x1.trans x2) _ fun y H3 x3 hy => ⟨y, d, ds, rfl, (Dq.up hx x3).dp, hy.dp, sl, sd, q _ H3 (x2.trans x3) (.int _)⟩⟩
theorem sr_unpack3 {i j k : Nat} (h : ED K b te σ H (.tuple [a, c, e])) (kk : ∀ v1 v2 v3 H', Ex H H' → Dq K b H' v1 a → Dq K b H' v2 c → Dq K b H' v3 e → SR K b ts (((σ.set i (some v1)).set j (some v2)).set k (some v3)) H' d) :
    SR K b (tSeq (tAsg te (gTup K 3 (gCons (gName i) (gCons (gName j) (gCons (gName k) gNil))))) ts) σ H d := fun H1 x1 D q =>
  h H1 x1 _ fun v H2 x2 hv => by
    cases hv with
    | tup h1 _ h2 =>
      cases h2 with
      | cons p1 p2 =>
        cases p2 with
        | cons p3 p4 =>
          cases p4 with
          | cons p5 p6 =>
            cases p6
            exact ⟨_, _, rfl, ex_t hid_le h1, rfl, _, _, rfl, _, _, rfl, _, _, rfl, rfl, kk _ _ _ H2 (x1.trans x2) p1 p3 p5 H2 (Ex.refl H2) D fun z H4 x4 hz => q _ H4 (x2.trans x4) hz⟩
/-- one sign in a written text -/
def rInSg : R2 := fun x y H Q => ∃ (c : Nat) (z : Str), x = .str ⟨#[c]⟩ ∧ y = .str z ∧ Q (.bl (decide (c ∈ z.cps.toList))) H
theorem op_inSg {X : Cx} : OpR X (compareOp .In) rInSg := op_in_sign
theorem ed_inSg {c : Nat} {z : Str} (ha : ED K b ta σ H (.str ⟨#[c]⟩)) (hb : ED K b tb σ H (.str z)) : ED K b (tOp rInSg ta tb) σ H (.bool (decide (c ∈ z.cps.toList))) :=
  ed_op ha hb fun H1 x y Q _ hx hy q => ⟨c, z, dq_str hx, dq_str hy, q _ H1 (Ex.refl H1) (.bl _)⟩
/-- sep.join(texts) -/
def rJoin (K : PySem.W.Frag) : V → List V → Hp → VK → Prop := fun x xs H Q => ∃ a p, ∃ ys : List Str, x = .str a ∧ xs = [.ref p] ∧ (SqL K H p (ys.map V.str) ∨ SqT K H p (ys.map V.str)) ∧ (ys.map (·.length)).sum + ys.length * a.length ≤ 16777216 ∧ Q (.str (Txt.join a ys)) H
theorem mt_joinD {X : Cx} : MtR X "str.join" (rJoin X.K) := mt_join
theorem ed_join {z : Str} {ys : List Str} (ha : ED K b ta σ H (.str z)) (hb : ED K b tb σ H (.list (ys.map PyData.str))) (hl : (ys.map (·.length)).sum + ys.length * z.length ≤ 16777216) : ED K b (tBM K "str" (rJoin K) ta (tCons tb tNil)) σ H (.str (Txt.join z ys)) := fun H1 x1 Q q =>
  ha H1 x1 _ fun x H2 x2 hx => by
    cases hx
    refine ⟨rfl, hb H2 (x1.trans x2) _ fun y H3 x3 hy => ?_⟩
    have hy' := hy.dd
    cases hy' with
    | lst h1 h2 =>
      rw [dps_strs h2] at h1
      exact ⟨z, _, ys, rfl, rfl, .inl h1, hl, q _ H3 (x2.trans x3) (.str _)⟩
/-- text.split(sep) -/
def rSplit : V → List V → Hp → VK → Prop := fun x xs H Q => ∃ a b, x = .str a ∧ xs = [.str b] ∧ (b.length == 0) = false ∧ a.length + 2 ≤ sizeLine ∧ rNewStrs (Txt.split a b) H Q
theorem mt_splitD {X : Cx} : MtR X "str.split" rSplit := mt_split
theorem ed_split {z y : Str} (kn : Kn b H) (ha : ED K b ta σ H (.str z)) (hb : ED K b tb σ H (.str y)) (hy : (y.length == 0) = false) (hl : z.length + 2 ≤ sizeLine) : ED K b (tBM K "str" rSplit ta (tCons tb tNil)) σ H (.list ((Txt.split z y).map PyData.str)) := fun H1 x1 Q q =>
  ha H1 x1 _ fun x H2 x2 hx => by
    cases hx
    refine ⟨rfl, hb H2 (x1.trans x2) _ fun v H3 x3 hv => ?_⟩
    cases hv
    exact ⟨z, y, rfl, rfl, hy, hl, fun p hp => q _ _ ((x2.trans x3).trans (Ex.new hp)) (.lst (.inl (.inl (hid_new ((kn.up ((x1.trans x2).trans x3)).new hp)))) (strs_dps _))⟩
/-- len(..) not in range(lo, hi) -/
theorem ed_ninR {i lo hi : Int} {tlo thi : TE} (ha : ED K b ta σ H (.int i)) (h1 : ED K b tlo σ H (.int lo)) (h2 : ED K b thi σ H (.int hi)) :
    ED K b (tOp rNinR ta (tCB (fun vs H Q => ∃ i j, vs = [V.int i, V.int j] ∧ ∀ p, H p = none → Q (.ref p) (upd H p (.rng i j))) (tCons tlo (tCons thi tNil)))) σ H (.bool (!decide (lo ≤ i ∧ i < hi))) := fun H1 x1 Q q =>
  ha H1 x1 _ fun x H2 x2 hx => h1 H2 (x1.trans x2) _ fun y H3 x3 hy => h2 H3 ((x1.trans x2).trans x3) _ fun z H4 x4 hz => ⟨lo, hi, by rw [dq_int hy, dq_int hz], fun p hp =>
    ⟨i, p, lo, hi, dq_int hx, rfl, upd_same, q _ _ (((x2.trans x3).trans x4).trans (Ex.new hp)) (.bl _)⟩⟩
end
end Wr

set_option Elab.async false
set_option linter.all false
set_option maxRecDepth 100000
set_option maxHeartbeats 4000000
namespace Wr
open PySem PySem.Spec PyProof.Rows L2 Evl
/-! ### a heap that grows but for the bag at a -/
def ExB (a : Addr) (H H' : Hp) : Prop := ∀ c o, c ≠ a → H c = some o → H' c = some o
theorem ExB.refl (a : Addr) (H : Hp) : ExB a H H := fun _ _ _ h => h
theorem ExB.trans {a : Addr} {H H1 H2 : Hp} (x : ExB a H H1) (y : ExB a H1 H2) : ExB a H H2 := fun c o n h => y c o n (x c o n h)
theorem exb {a : Addr} {H H1 : Hp} (x : Ex H H1) : ExB a H H1 := fun c o _ h => x c o h
theorem hid_exB {b : List Addr} {a : Addr} {H H' : Hp} (ha : a ∈ b) (e : ExB a H H') : Ex (hid b H) (hid b H') := fun c o h => by
  obtain ⟨h1, h2⟩ := hid_some h
  rw [hid_ne h1]
  exact e c o (fun z => h1 (z ▸ ha)) h2
theorem Dq.upB {K : PySem.W.Frag} {b : List Addr} {a : Addr} {H H' : Hp} {v : V} {d : PyData} (ha : a ∈ b) (h : Dq K b H v d) (e : ExB a H H') : Dq K b H' v d := dp_ex (hid_exB ha e) d v h
theorem DqAll.upB {K : PySem.W.Frag} {b : List Addr} {a : Addr} {H H' : Hp} {vs : List V} {ds : List PyData} (ha : a ∈ b) (h : DqAll K b H vs ds) (e : ExB a H H') : DqAll K b H' vs ds := dps_ex (hid_exB ha e) ds vs h
/-- the bag at a: the digits that are left, and what is mixed -/
def Bag (a : Addr) (_ : Nat) (H : Hp) : Prop := ∃ g x : Int, H a = some (.lst [.int g, .int x]) ∧ 0 ≤ g ∧ 0 ≤ x ∧ x < 2147483648
theorem Bag.any {a : Addr} {n m : Nat} {H : Hp} (h : Bag a n H) : Bag a m H := h
theorem Bag.le {a : Addr} {n m : Nat} {H : Hp} (h : Bag a n H) (_ : m ≤ n) : Bag a m H := h
theorem Bag.ex {a : Addr} {n : Nat} {H H' : Hp} (h : Bag a n H) (e : Ex H H') : Bag a n H' := by
  obtain ⟨g, x, h1, r⟩ := h
  exact ⟨g, x, e _ _ h1, r⟩
theorem Bag.there {a : Addr} {n : Nat} {H : Hp} (h : Bag a n H) : H a ≠ none := by
  obtain ⟨g, x, h1, _⟩ := h
  rw [h1]
  intro z
  cases z
theorem Bag.kn {a : Addr} {n : Nat} {H : Hp} (h : Bag a n H) : Kn [a] H := fun c hc => by
  rw [List.mem_singleton.mp hc]
  exact h.there
theorem ExB.kn {a : Addr} {n : Nat} {b : List Addr} {H H' : Hp} (k : Kn b H) (x : ExB a H H') (h : Bag a n H') : Kn b H' := fun c hc z => by
  by_cases e : c = a
  · subst e
    exact h.there z
  · cases q : H c with
    | none => exact k c hc q
    | some o =>
      rw [x c o e q] at z
      cases z
/-! ### what is evaluated while things are taken from the bag -/
section
variable (K : PySem.W.Frag) (b : List Addr) (a : Addr) (n m : Nat)
def EG (te : TE) (σ : L2.St) (H : Hp) (P : PyData → Prop) : Prop := ∀ H1, ExB a H H1 → Kn b H1 → Bag a n H1 → ∀ Q : VK, (∀ v d H2, ExB a H1 H2 → Bag a m H2 → Dq K b H2 v d → P d → Q v H2) → te σ H1 Q
def EGA (ta : TA) (σ : L2.St) (H : Hp) (P : List PyData → Prop) : Prop := ∀ H1, ExB a H H1 → Kn b H1 → Bag a n H1 → ∀ Q : List V → Hp → Prop, (∀ vs ds H2, ExB a H1 H2 → Bag a m H2 → DqAll K b H2 vs ds → P ds → Q vs H2) → ta σ H1 Q
def GS (ts : TS) (σ : L2.St) (H : Hp) (P : PyData → Prop) : Prop := ∀ H1, ExB a H H1 → Kn b H1 → Bag a n H1 → ∀ D : Ends, (∀ v d H2, ExB a H1 H2 → Bag a m H2 → Dq K b H2 v d → P d → D.rt v H2) → ts D σ H1
end
theorem EG.any {K : PySem.W.Frag} {b : List Addr} {a : Addr} {n m n' m' : Nat} {te : TE} {σ : L2.St} {H : Hp} {P : PyData → Prop} (h : EG K b a n m te σ H P) : EG K b a n' m' te σ H P := h
theorem EGA.any {K : PySem.W.Frag} {b : List Addr} {a : Addr} {n m n' m' : Nat} {te : TA} {σ : L2.St} {H : Hp} {P : List PyData → Prop} (h : EGA K b a n m te σ H P) : EGA K b a n' m' te σ H P := h
theorem GS.any {K : PySem.W.Frag} {b : List Addr} {a : Addr} {n m n' m' : Nat} {te : TS} {σ : L2.St} {H : Hp} {P : PyData → Prop} (h : GS K b a n m te σ H P) : GS K b a n' m' te σ H P := h
def spG (K : PySem.W.Frag) (n : Nat) (pre : List PyData → Prop) (P : List PyData → PyData → Prop) : Sp := fun vs H Q _ =>
  ∃ b a k ws ds, vs = .ref a :: ws ∧ a ∈ b ∧ Kn b H ∧ Bag a (k + n) H ∧ DqAll K b H ws ds ∧ pre ds ∧ ∀ v d H', ExB a H H' → Bag a k H' → Dq K b H' v d → P ds d → Q v H'
section
variable {K : PySem.W.Frag} {b : List Addr} {a : Addr} {n m k : Nat} {σ : L2.St} {H H' : Hp} {ta tb te : TE} {t : TA} {tt : TT} {ts t1 t2 : TS} {P P' : PyData → Prop} {d : PyData}
theorem EG.imp (h : EG K b a n m te σ H P) (hp : ∀ d, P d → P' d) : EG K b a n m te σ H P' := fun H1 x1 kn bg Q q => h H1 x1 kn bg Q fun v d H2 x2 b2 hv p => q v d H2 x2 b2 hv (hp d p)
theorem EG.mono (x : ExB a H H') (h : EG K b a n m te σ H P) : EG K b a n m te σ H' P := fun H1 x1 => h H1 (x.trans x1)
theorem EG.le {m' : Nat} (h : EG K b a n m te σ H P) (hm : m' ≤ m) : EG K b a n m' te σ H P := fun H1 x1 kn bg Q q => h H1 x1 kn bg Q fun v d H2 x2 b2 hv p => q v d H2 x2 (b2.le hm) hv p
theorem eg_pure (h : ∀ H1, ExB a H H1 → Kn b H1 → ED K b te σ H1 d) (p : P d) : EG K b a n n te σ H P := fun H1 x1 kn bg Q q => h H1 x1 kn H1 (Ex.refl H1) Q fun v H2 x2 hv => q v d H2 (exb x2) (bg.ex x2) hv p
theorem eg_var {i : Nat} {v : V} (hv : σ[i]? = some (some v)) (ha : a ∈ b) (hd : Dq K b H v d) (p : P d) : EG K b a n n (tVar i) σ H P := eg_pure (fun H1 x1 _ => ed_var hv (hd.upB ha x1)) p
theorem ega_nil : EGA K b a n n tNil σ H (· = []) := fun H1 x1 kn bg Q q => q [] [] H1 (ExB.refl a H1) bg .nil rfl
theorem ega_cons {R : List PyData → Prop} (ha : a ∈ b) (h1 : EG K b a n k ta σ H P) (h2 : EGA K b a k m t σ H R) : EGA K b a n m (tCons ta t) σ H (fun ds => ∃ d r, ds = d :: r ∧ P d ∧ R r) := fun H1 x1 kn bg Q q =>
  h1 H1 x1 kn bg _ fun v d H2 x2 b2 hv p => h2 H2 (x1.trans x2) (x2.kn kn b2) b2 _ fun vs ds H3 x3 b3 hvs r => q _ (d :: ds) H3 (x2.trans x3) b3 (.cons (hv.upB ha x3) hvs) ⟨d, ds, rfl, p, r⟩
/-- a call of a def that takes from the bag -/
theorem eg_call {c : Nat} {pre : List PyData → Prop} {R : List PyData → PyData → Prop} {S : List PyData → Prop} {E : XK} {i : Nat} (ha : a ∈ b) (hb : σ[i]? = some (some (.ref a))) (hargs : EGA K b a n (m + c) t σ H S) (hp : ∀ ds, S ds → pre ds) (hr : ∀ ds d, S ds → R ds d → P d) :
    EG K b a n m (tCall (spG K c pre R) [] E (tCons (tVar i) t)) σ H P := fun H1 x1 kn bg Q q =>
  ⟨.ref a, hb, hargs H1 x1 kn bg _ fun vs ds H2 x2 b2 hvs s => ⟨b, a, m, vs, ds, by rw [List.append_nil], ha, x2.kn kn b2, b2, hvs, hp ds s, fun v d H3 x3 b3 hv r => q v d H3 (x2.trans x3) b3 hv (hr ds d s r)⟩⟩
theorem gs_ret (h : EG K b a n m te σ H P) : GS K b a n m (tRet te) σ H P := fun H1 x1 kn bg D q => h H1 x1 kn bg _ q
theorem gs_if {c : Bool} (hc : ∀ H1, ExB a H H1 → Kn b H1 → EvT tt σ H1 c) (h1 : c = true → GS K b a n m t1 σ H P) (h2 : c = false → GS K b a n m t2 σ H P) : GS K b a n m (tSeq (tIfS tt t1 tNext) t2) σ H P := fun H1 x1 kn bg D q =>
  hc H1 x1 kn H1 (Ex.refl H1) _ fun H2 x2 => by
    cases c with
    | true =>
      rw [if_pos rfl]
      exact h1 rfl H2 (x1.trans (exb x2)) (kn.up x2) (bg.ex x2) _ fun v d H3 x3 b3 hv p => q v d H3 ((exb x2).trans x3) b3 hv p
    | false =>
      rw [if_neg Bool.false_ne_true]
      exact h2 rfl H2 (x1.trans (exb x2)) (kn.up x2) (bg.ex x2) _ fun v d H3 x3 b3 hv p => q v d H3 ((exb x2).trans x3) b3 hv p
theorem gs_set {i : Nat} {P1 : PyData → Prop} (h : EG K b a n k te σ H P1) (kk : ∀ v d H', ExB a H H' → Dq K b H' v d → P1 d → GS K b a k m ts (σ.set i (some v)) H' P) : GS K b a n m (tSeq (tAsg te (gName i)) ts) σ H P := fun H1 x1 kn bg D q =>
  h H1 x1 kn bg _ fun v d H2 x2 b2 hv p => kk v d H2 (x1.trans x2) hv p H2 (ExB.refl a H2) (x2.kn kn b2) b2 D fun v' d' H3 x3 b3 hv' p' => q v' d' H3 (x2.trans x3) b3 hv' p'
/-- a conditional expression whose test is pure -/
theorem eg_if {c : Bool} (hc : ∀ H1, ExB a H H1 → Kn b H1 → EvT tt σ H1 c) (h1 : c = true → EG K b a n m ta σ H P) (h2 : c = false → EG K b a n m tb σ H P) : EG K b a n m (tIf tt ta tb) σ H P := fun H1 x1 kn bg Q q =>
  hc H1 x1 kn H1 (Ex.refl H1) _ fun H2 x2 => by
    cases c with
    | true =>
      rw [if_pos rfl]
      exact h1 rfl H2 (x1.trans (exb x2)) (kn.up x2) (bg.ex x2) _ fun v d H3 x3 b3 hv p => q v d H3 ((exb x2).trans x3) b3 hv p
    | false =>
      rw [if_neg Bool.false_ne_true]
      exact h2 rfl H2 (x1.trans (exb x2)) (kn.up x2) (bg.ex x2) _ fun v d H3 x3 b3 hv p => q v d H3 ((exb x2).trans x3) b3 hv p
/-- two operands, the operation pure on their data -/
theorem eg_op {r : R2} {P1 P2 : PyData → Prop} (ha : a ∈ b) (h1 : EG K b a n k ta σ H P1) (h2 : EG K b a k m tb σ H P2) (hr : ∀ d e H1 x y (Q : VK), P1 d → P2 e → ExB a H H1 → Kn b H1 → Dq K b H1 x d → Dq K b H1 y e → (∀ v z H2, Ex H1 H2 → Dq K b H2 v z → P z → Q v H2) → r x y H1 Q) : EG K b a n m (tOp r ta tb) σ H P := fun H1 x1 kn bg Q q =>
  h1 H1 x1 kn bg _ fun v d H2 x2 b2 hv p1 => h2 H2 (x1.trans x2) (x2.kn kn b2) b2 _ fun w e H3 x3 b3 hw p2 =>
    hr d e H3 v w Q p1 p2 ((x1.trans x2).trans x3) (x3.kn (x2.kn kn b2) b3) (hv.upB ha x3) hw fun u z H4 x4 hu p => q u z H4 ((x2.trans x3).trans (exb x4)) (b3.ex x4) hu p
/-- a new tuple of what is evaluated -/
theorem eg_tup {R : List PyData → Prop} (h : EGA K b a n m t σ H R) (hl : ∀ ds, R ds → ds.length ≤ sizeLine ∧ P (.tuple ds)) : EG K b a n m (tTupF t) σ H P := fun H1 x1 kn bg Q q =>
  h H1 x1 kn bg _ fun vs ds H2 x2 b2 hvs r => ⟨by rw [dps_len hvs]; exact (hl ds r).1, fun p o hp ho => by
    have e := hid_new (o := HO.frz o (.tup vs)) (H := H2) ((x2.kn kn b2).new hp)
    exact q _ (.tuple ds) _ (x2.trans (exb (Ex.new hp))) (b2.ex (Ex.new hp)) (.tup (.inl (.inr ⟨_, e⟩)) (.inl ⟨_, _, e, ho⟩) (hvs.up (Ex.new hp))) (hl ds r).2⟩
end
theorem GS.fin {K : PySem.W.Frag} {b : List Addr} {a : Addr} {n m : Nat} {σ : L2.St} {H : Hp} {ts : TS} {P : PyData → Prop} {D : Ends} (h : GS K b a n m ts σ H P) (kn : Kn b H) (bg : Bag a n H) (q : ∀ v d H', ExB a H H' → Bag a m H' → Dq K b H' v d → P d → D.rt v H') : ts D σ H := h H (ExB.refl a H) kn bg D q
/-! ### wide powers -/
def CPowW (i j : Int) : Prop := 0 ≤ j ∧ j ≤ 100 ∧ i.natAbs < 2 ^ 1000
theorem op_powW {X : Cx} : OpR X (binaryOp .Pow) (rI CPowW fun i j => .int (i ^ j.toNat)) := opI fun i j _ _ _ _ _ hc q => pow_int hc.1 (by
  have hlog : i.natAbs.log2 < 1000 := by
    by_cases h0 : i.natAbs = 0
    · rw [h0]; decide
    · exact (Nat.log2_lt h0).mpr hc.2.2
  have h1 : (Builtin.Int.intBits i : Nat) ≤ 1001 := by
    unfold Builtin.Int.intBits
    split <;> omega
  have h2 := hc.2.1
  have h3 := hc.1
  have h4 : ((Builtin.Int.intBits i : Nat) : Int) ≤ 1001 := by omega
  have h5 : ((Builtin.Int.intBits i : Nat) : Int) * j ≤ 1001 * 100 := Int.mul_le_mul h4 h2 h3 (by decide)
  exact Int.le_trans h5 (by decide)) q
end Wr

set_option Elab.async false
set_option linter.all false
set_option maxRecDepth 100000
set_option maxHeartbeats 4000000
namespace Wr
open PySem PySem.Spec PyProof.Rows L2 Evl
abbrev s_take : Stmt := topS 27
abbrev NT : List Str := ["_law_bag_here", "_law_many", "_law_digit"]
theorem sc_take : FnScope NT ["_law_bag_here", "_law_many"] (defScope s_take) := ⟨rfl, rfl, rfl, by decide +kernel, rfl, by decide +kernel, by decide +kernel⟩
def TakePre (ds : List PyData) : Prop := ∃ m, ds = [.int m] ∧ 0 < m ∧ m < 1073741824
def TakeR (ds : List PyData) (d : PyData) : Prop := ∃ m r, ds = [.int m] ∧ d = .int r ∧ 0 ≤ r ∧ r < m
abbrev spTake (K : PySem.W.Frag) : Sp := spG K 0 TakePre TakeR
theorem spG_len {K : PySem.W.Frag} {n k : Nat} {pre : List PyData → Prop} {R : List PyData → PyData → Prop} (hl : ∀ ds, pre ds → ds.length = k) {vs : List V} {H : Hp} {Q : VK} {E : XK} (h : spG K n pre R vs H Q E) : vs.length = k + 1 := by
  obtain ⟨b, a, k', ws, ds, rfl, _, _, _, hd, hp, _⟩ := h
  rw [List.length_cons, dps_len hd, hl ds hp]
section
variable {K : PySem.W.Frag} {b : List Addr} {σ : L2.St} {H H' : Hp} {ta tb te : TE}
theorem gnext {D : Ends} {σ : L2.St} {H : Hp} (h : D.nx σ H) : tNext D σ H := h
theorem g_set {D : Ends} {i : Nat} {ts : TS} {d : PyData} (h : ED K b te σ H d) (k : ∀ v H', Ex H H' → Dq K b H' v d → ts D (σ.set i (some v)) H') : tSeq (tAsg te (gName i)) ts D σ H := h H (Ex.refl H) _ fun v H' x hv => k v H' x hv
/-- an item of the bag -/
theorem ed_bag {a : Addr} {xs : List V} {i j : Nat} {k : Int} (hs : σ[j]? = some (some (.ref a))) (h : H a = some (.lst xs)) (hi : xs[i]? = some (.int k)) : ED K b (tOp (rIxL K) (tVar j) (tC (.int (i : Nat)))) σ H (.int k) := fun H1 x1 Q q =>
  ⟨.ref a, hs, a, xs, (i : Nat), .int k, rfl, rfl, .inl (.inl (x1 _ _ h)), atI_nat hi, q _ H1 (Ex.refl H1) (.int _)⟩
theorem ed_mul {i j : Int} (ha : ED K b ta σ H (.int i)) (hb : ED K b tb σ H (.int j)) (hc : CMul i j) : ED K b (tOp (rI CMul fun i j => .int (i * j)) ta tb) σ H (.int (i * j)) := ed_I ha hb hc fun _ => .int _
theorem ed_mod {i j : Int} (ha : ED K b ta σ H (.int i)) (hb : ED K b tb σ H (.int j)) (hc : 0 < j) : ED K b (tOp (rI (fun _ j => 0 < j) fun i j => .int (i % j)) ta tb) σ H (.int (i % j)) := ed_I ha hb hc fun _ => .int _
theorem ed_fdiv {i j : Int} (ha : ED K b ta σ H (.int i)) (hb : ED K b tb σ H (.int j)) (hc : CDiv i j) : ED K b (tOp (rI CDiv fun i j => .int (i / j)) ta tb) σ H (.int (i / j)) := ed_I ha hb hc fun _ => .int _
theorem ed_powW {i j : Int} (ha : ED K b ta σ H (.int i)) (hb : ED K b tb σ H (.int j)) (hc : CPowW i j) : ED K b (tOp (rI CPowW fun i j => .int (i ^ j.toNat)) ta tb) σ H (.int (i ^ j.toNat)) := ed_I ha hb hc fun _ => .int _
end
section
variable {P : Program} {w : World} {K : PySem.W.Frag} {mg : Str → Option Value} {base : Heap} {f g g2 : Addr} {fd gd gd2 : FuncData}
theorem ok_take (D : Def K mg "_law_take" s_take ["_law_bag_here", "_law_many"] f fd) : FnOk P w K mg base CX0 1 f fd ["_law_bag_here", "_law_many"] (spTake K) := by
  refine D.F.ok sc_take (fun vs H Q E h => spG_len (fun ds ⟨m, e, _⟩ => by rw [e]; rfl) h) (fun cdv A outer s H vs Q E hr h => ?_)
  obtain ⟨b, a, k, ws, ds, rfl, hab, kn, ⟨gg, x, hb, g0, x0, x1⟩, hd, ⟨m, rfl, m0, m1⟩, q⟩ := h
  obtain ⟨v, d, rfl, ed, hv⟩ := one_of hd rfl
  cases ed
  have ev := dq_int hv
  subst ev
  refine ⟨_, pss_cons (ps_if (pt_cmpR op_gt (pe_ix ix_list (pv 0) pe_int (fun _ _ => rfl)) pe_int (nomark _))
      (pss_cons (ps_set (i := 2) sc_take.nd rfl (Or.inl rfl) (pe_op op_mod (pe_ix ix_list (pv 0) pe_int (fun _ _ => rfl)) (pv 1)))
      (pss_cons (ps_asg (pe_op op_fdiv (pe_ix ix_list (pv 0) pe_int (fun _ _ => rfl)) (pv 1)) (pg_sub (pv 0) pe_int set_list))
      (pss_one (ps_ret (pv 2))))) pss_nil)
    (pss_cons (ps_asg (pe_op op_mod (pe_op op_add (pe_op op_mul (pe_ix ix_list (pv 0) pe_int (fun _ _ => rfl)) pe_int) pe_int) pe_int) (pg_sub (pv 0) pe_int set_list))
    (pss_one (ps_ret (pe_op op_mod (pe_op op_mod (pe_op op_mul (pe_op op_fdiv (pe_op op_mod (pe_op op_powW (pe_ix ix_list (pv 0) pe_int (fun _ _ => rfl)) pe_int) pe_int) pe_int) pe_int) pe_int) (pv 1))))), ?_⟩
  refine et_t (K := K) (b := b) (ed_gt (ed_bag (i := 0) rfl hb rfl) ed_int) H (Ex.refl H) _ fun H1 y1 => ?_
  by_cases hg : (0 : Int) < gg
  · rw [decide_eq_true hg, if_pos rfl]
    refine (ed_mod (K := K) (b := b) (ed_bag (i := 0) rfl (y1 _ _ hb) rfl) (ed_var (d := .int m) rfl (.int m)) m0) H1 (Ex.refl H1) _ fun v2 H2 y2 hv2 => ?_
    have e2 := dq_int hv2
    subst e2
    refine (ed_fdiv (K := K) (b := b) (ed_bag (i := 0) rfl (y2 _ _ (y1 _ _ hb)) rfl) (ed_var (d := .int m) rfl (.int m)) ⟨m0, m1⟩) H2 (Ex.refl H2) _ fun v3 H3 y3 hv3 => ?_
    have e3 := dq_int hv3
    subst e3
    have hb3 := y3 _ _ (y2 _ _ (y1 _ _ hb))
    refine ⟨.ref a, rfl, a, _, 0, 0, rfl, rfl, hb3, rfl, _, rfl, ?_⟩
    refine q _ (.int (gg % m)) _ (fun c o n h => ?_) ⟨gg / m, x, upd_same, Int.ediv_nonneg g0 (by omega), x0, x1⟩ (.int _) ⟨m, gg % m, rfl, rfl, Int.emod_nonneg _ (by omega), Int.emod_lt_of_pos _ m0⟩
    rw [upd_ne n]
    exact y3 _ _ (y2 _ _ (y1 _ _ h))
  · rw [decide_eq_false hg, if_neg Bool.false_ne_true]
    refine gnext ?_
    have hb1 := y1 _ _ hb
    refine (ed_mod (K := K) (b := b) (ed_add (ed_mul (ed_bag (i := 1) rfl hb1 rfl) ed_int (.inr ⟨by decide, by decide⟩)) ed_int) ed_int (by decide)) H1 (Ex.refl H1) _ fun v2 H2 y2 hv2 => ?_
    have e2 := dq_int hv2
    subst e2
    have z0 := Int.emod_nonneg (x * 48271 + 7919) (show (2147483647 : Int) ≠ 0 by decide)
    have z1 := Int.emod_lt_of_pos (x * 48271 + 7919) (show (0 : Int) < 2147483647 by decide)
    generalize (x * 48271 + 7919) % 2147483647 = z at z0 z1
    have hb2 := y2 _ _ hb1
    refine ⟨.ref a, rfl, a, _, 1, 1, rfl, rfl, hb2, rfl, ?_⟩
    have hb4 : (upd H2 a (.lst ([V.int gg, .int x].set 1 (.int z)))) a = some (.lst [.int gg, .int z]) := upd_same
    have hx4 : ExB a H (upd H2 a (.lst ([V.int gg, .int x].set 1 (.int z)))) := fun c o n h => by
      rw [upd_ne n]
      exact y2 _ _ (y1 _ _ h)
    generalize upd H2 a (.lst ([V.int gg, .int x].set 1 (.int z))) = H4 at hb4 hx4
    have hpw : CPowW z 3 := ⟨by decide, by decide, Nat.lt_of_lt_of_le (show z.natAbs < 2 ^ 31 by omega) (by decide)⟩
    have p0 := Int.emod_nonneg (z ^ (3 : Int).toNat) (show (2147483587 : Int) ≠ 0 by decide)
    have p1 := Int.emod_lt_of_pos (z ^ (3 : Int).toNat) (show (0 : Int) < 2147483587 by decide)
    refine (ed_mod (K := K) (b := b) (ed_mod (ed_mul (ed_fdiv (ed_mod (ed_powW (ed_bag (i := 1) rfl hb4 rfl) ed_int hpw) ed_int (by decide)) ed_int ⟨by decide, by decide⟩) ed_int (.inr ⟨by decide, by decide⟩)) ed_int (by decide)) (ed_var (d := .int m) rfl (.int m)) m0) H4 (Ex.refl H4) _ fun v8 H8 y8 hv8 => ?_
    exact q _ _ _ (hx4.trans (exb y8)) ⟨gg, z, y8 _ _ hb4, g0, z0, by omega⟩ hv8 ⟨m, _, rfl, rfl, Int.emod_nonneg _ (by omega), Int.emod_lt_of_pos _ m0⟩
end
end Wr

set_option Elab.async false
set_option linter.all false
set_option maxRecDepth 100000
set_option maxHeartbeats 4000000
namespace Wr
open PySem PySem.Spec PyProof.Rows L2 Evl
abbrev NN2 : List Str := ["_law_bag_here", "_law_many", "_law_letters", "_law_first", "_law_long", "_law_k"]
def IntB (m : Int) (d : PyData) : Prop := ∃ r, d = .int r ∧ 0 ≤ r ∧ r < m
section
variable {K : PySem.W.Frag} {b : List Addr} {a : Addr} {n m k : Nat} {σ : L2.St} {H H' : Hp} {ta tb te : TE} {t : TA} {tt : TT} {ts t1 t2 : TS} {P P' : PyData → Prop} {d : PyData}
theorem eg_takeE {i : Nat} {u : Int} {P1 : PyData → Prop} {E : XK} (ha : a ∈ b) (hb : σ[i]? = some (some (.ref a))) (h : EG K b a n m te σ H P1) (hp : ∀ d, P1 d → ∃ j, d = .int j ∧ 0 < j ∧ j < 1073741824 ∧ j ≤ u) : EG K b a n m (tCall (spTake K) [] E (tCons (tVar i) (tCons te tNil))) σ H (IntB u) :=
  eg_call ha hb (ega_cons ha h ega_nil) (fun ds ⟨d, r, e, p, er⟩ => by
    obtain ⟨j, rfl, h1, h2, _⟩ := hp d p
    subst er
    exact ⟨j, e, h1, h2⟩) fun ds d ⟨d', r, e, p, er⟩ ⟨j, x, e1, e2, h1, h2⟩ => by
    obtain ⟨j', rfl, _, _, h3⟩ := hp d' p
    subst er
    rw [e] at e1
    have ej : j' = j := by injection e1 with e1 _; injection e1
    exact ⟨x, e2, h1, by omega⟩
theorem eg_take {i : Nat} {u : Int} {E : XK} (ha : a ∈ b) (hb : σ[i]? = some (some (.ref a))) (h0 : 0 < u) (h1 : u < 1073741824) : EG K b a n n (tCall (spTake K) [] E (tCons (tVar i) (tCons (tC (.int u)) tNil))) σ H (IntB u) :=
  eg_takeE (P1 := fun d => d = .int u) ha hb (eg_pure (fun _ _ _ => ed_int) rfl) fun d e => ⟨u, e, h0, h1, Int.le_refl u⟩
theorem eg_ixL {P1 P2 : PyData → Prop} (ha : a ∈ b) (h1 : EG K b a n k ta σ H P1) (h2 : EG K b a k m tb σ H P2) (hi : ∀ d e, P1 d → P2 e → ∃ ds i z, d = .list ds ∧ e = .int i ∧ atI ds i = some z ∧ P z) : EG K b a n m (tOp (rIxL K) ta tb) σ H P :=
  eg_op ha h1 h2 fun d e H1 x y Q p1 p2 _ _ hx hy q => by
    obtain ⟨ds, i, z, rfl, rfl, hz, p⟩ := hi d e p1 p2
    cases hx with
    | lst g1 g2 =>
      obtain ⟨v, q1, q2⟩ := dps_atI g2 hz
      exact ⟨_, _, i, v, rfl, dq_int hy, ex_l hid_le g1, q1, q v z H1 (Ex.refl H1) q2 p⟩
theorem eg_I0 {g : Int → Int → Int} {P1 P2 : PyData → Prop} (ha : a ∈ b) (h1 : EG K b a n k ta σ H P1) (h2 : EG K b a k m tb σ H P2) (hi : ∀ d e, P1 d → P2 e → ∃ i j, d = .int i ∧ e = .int j ∧ P (.int (g i j))) : EG K b a n m (tOp (rI0 fun i j => .int (g i j)) ta tb) σ H P :=
  eg_op ha h1 h2 fun d e H1 x y Q p1 p2 _ _ hx hy q => by
    obtain ⟨i, j, rfl, rfl, p⟩ := hi d e p1 p2
    exact ⟨i, j, dq_int hx, dq_int hy, q _ _ H1 (Ex.refl H1) (.int _) p⟩
theorem intB_at {ds : List PyData} {u : Int} {d : PyData} (h : IntB u d) (hu : u ≤ ds.length) : ∃ i z, d = .int i ∧ atI ds i = some z ∧ z ∈ ds := by
  obtain ⟨r, rfl, h0, h1⟩ := h
  have hr : r.toNat < ds.length := by omega
  have e : ((r.toNat : Nat) : Int) = r := Int.toNat_of_nonneg h0
  have q := atI_nat (xs := ds) (j := r.toNat) (List.getElem?_eq_getElem hr)
  rw [e] at q
  exact ⟨r, ds[r.toNat], rfl, q, List.getElem_mem hr⟩
end
section
variable {P : Program} {w : World} {K : PySem.W.Frag} {mg : Str → Option Value} {base : Heap} {f g g2 : Addr} {fd gd gd2 : FuncData}
end
end Wr

set_option Elab.async false
set_option linter.all false
set_option maxRecDepth 100000
set_option maxHeartbeats 4000000
namespace Wr
open PySem PySem.Spec PyProof.Rows L2 Evl
/-! ### how great data are -/
def okL (L : Nat) : Nat → PyData → Bool
  | _, .none => true
  | _, .bool _ => true
  | _, .int i => decide (i.natAbs < 10 ^ 40 + L)
  | _, .str x => PyData.strOk x && decide (x.length ≤ 1000)
  | n + 1, .list ds => decide (ds.length ≤ L) && ds.all (okL L n)
  | n + 1, .tuple ds => decide (ds.length ≤ L) && ds.all (okL L n)
  | _, _ => false
theorem int_room {L i : Nat} (hL : L ≤ 1000) (h : i < 10 ^ 40 + L) : i < 10 ^ 45 := by
  have : (10 ^ 40 + 1000 : Nat) < 10 ^ 45 := by decide
  omega
theorem okL_ok {L : Nat} (hL : L ≤ 1000) : ∀ (n : Nat) (d : PyData), okL L n d = true → okD n d = true
  | 0, .none, _ => rfl
  | 0, .bool _, _ => rfl
  | 0, .int i, h => decide_eq_true (int_room hL (of_decide_eq_true h))
  | 0, .str x, h => h
  | 0, .list ds, h => by cases h
  | 0, .tuple ds, h => by cases h
  | 0, .dict _, h => by cases h
  | _ + 1, .none, _ => rfl
  | _ + 1, .bool _, _ => rfl
  | _ + 1, .int i, h => decide_eq_true (int_room hL (of_decide_eq_true h))
  | _ + 1, .str x, h => h
  | _ + 1, .dict _, h => by cases h
  | n + 1, .list ds, h => by
    have h' : (decide (ds.length ≤ L) && ds.all (okL L n)) = true := h
    show (decide (ds.length ≤ 1000) && ds.all (okD n)) = true
    rw [Bool.and_eq_true] at h' ⊢
    exact ⟨decide_eq_true (Nat.le_trans (of_decide_eq_true h'.1) hL), List.all_eq_true.mpr fun d hd => okL_ok hL n d (List.all_eq_true.mp h'.2 d hd)⟩
  | n + 1, .tuple ds, h => by
    have h' : (decide (ds.length ≤ L) && ds.all (okL L n)) = true := h
    show (decide (ds.length ≤ 1000) && ds.all (okD n)) = true
    rw [Bool.and_eq_true] at h' ⊢
    exact ⟨decide_eq_true (Nat.le_trans (of_decide_eq_true h'.1) hL), List.all_eq_true.mpr fun d hd => okL_ok hL n d (List.all_eq_true.mp h'.2 d hd)⟩
theorem okL_up {L M : Nat} (hL : L ≤ M) : ∀ (n m : Nat) (d : PyData), n ≤ m → okL L n d = true → okL M m d = true
  | _, 0, .none, _, _ => rfl
  | _, _ + 1, .none, _, _ => rfl
  | _, 0, .bool _, _, _ => rfl
  | _, _ + 1, .bool _, _, _ => rfl
  | n, m, .int i, _, h => by
    have h' : decide (i.natAbs < 10 ^ 40 + L) = true := by cases n <;> exact h
    have h2 : decide (i.natAbs < 10 ^ 40 + M) = true := decide_eq_true (by have := of_decide_eq_true h'; omega)
    cases m <;> exact h2
  | n, m, .str x, _, h => by cases n <;> cases m <;> exact h
  | 0, _, .list ds, _, h => by cases h
  | 0, _, .tuple ds, _, h => by cases h
  | 0, _, .dict _, _, h => by cases h
  | _ + 1, _, .dict _, _, h => by cases h
  | n + 1, 0, .list ds, hm, h => by omega
  | n + 1, 0, .tuple ds, hm, h => by omega
  | n + 1, m + 1, .list ds, hm, h => by
    have h' : (decide (ds.length ≤ L) && ds.all (okL L n)) = true := h
    show (decide (ds.length ≤ M) && ds.all (okL M m)) = true
    rw [Bool.and_eq_true] at h' ⊢
    exact ⟨decide_eq_true (Nat.le_trans (of_decide_eq_true h'.1) hL), List.all_eq_true.mpr fun d hd => okL_up hL n m d (by omega) (List.all_eq_true.mp h'.2 d hd)⟩
  | n + 1, m + 1, .tuple ds, hm, h => by
    have h' : (decide (ds.length ≤ L) && ds.all (okL L n)) = true := h
    show (decide (ds.length ≤ M) && ds.all (okL M m)) = true
    rw [Bool.and_eq_true] at h' ⊢
    exact ⟨decide_eq_true (Nat.le_trans (of_decide_eq_true h'.1) hL), List.all_eq_true.mpr fun d hd => okL_up hL n m d (by omega) (List.all_eq_true.mp h'.2 d hd)⟩
theorem okL_tup {L n : Nat} {ds : List PyData} (hl : ds.length ≤ L) (h : ∀ d ∈ ds, okL L n d = true) : okL L (n + 1) (.tuple ds) = true := by
  show (decide (ds.length ≤ L) && ds.all (okL L n)) = true
  rw [decide_eq_true hl, Bool.true_and]
  exact List.all_eq_true.mpr h
theorem okL_items {L n : Nat} {ds : List PyData} (h : okL L (n + 1) (.tuple ds) = true) : ds.length ≤ L ∧ ∀ d ∈ ds, okL L n d = true := by
  have h' : (decide (ds.length ≤ L) && ds.all (okL L n)) = true := h
  rw [Bool.and_eq_true] at h'
  exact ⟨of_decide_eq_true h'.1, List.all_eq_true.mp h'.2⟩
mutual
def szD : PyData → Nat
  | .none => 4
  | .bool _ => 5
  | .int _ => 1921
  | .str x => 10 * x.length + 2
  | .list xs => szAll xs + 3
  | .tuple xs => szAll xs + 3
  | .dict _ => 0
def szAll : List PyData → Nat
  | [] => 0
  | x :: xs => szD x + 2 + szAll xs
end
theorem szAll_app (xs ys : List PyData) : szAll (xs ++ ys) = szAll xs + szAll ys := by
  induction xs with
  | nil => simp only [List.nil_append, szAll, Nat.zero_add]
  | cons x r ih =>
    simp only [List.cons_append, szAll, ih]
    omega
theorem szAll_le {c : Nat} : ∀ {xs : List PyData}, (∀ x ∈ xs, szD x ≤ c) → szAll xs ≤ xs.length * (c + 2)
  | [], _ => by simp only [szAll]; omega
  | x :: xs, h => by
    have h1 := h x List.mem_cons_self
    have h2 := szAll_le fun y hy => h y (List.mem_cons_of_mem _ hy)
    simp only [szAll, List.length_cons, Nat.add_mul]
    omega
theorem szD_str (x : Str) : szD (.str x) = 10 * x.length + 2 := by simp only [szD]
theorem szD_int (i : Int) : szD (.int i) = 1921 := by simp only [szD]
theorem szD_tup (xs : List PyData) : szD (.tuple xs) = szAll xs + 3 := by simp only [szD]
theorem szD_lst (xs : List PyData) : szD (.list xs) = szAll xs + 3 := by simp only [szD]
theorem name_len {x : Str} (h : nameS x = true) : x.length ≤ 8 := by
  unfold nameS at h
  rw [Bool.and_eq_true] at h
  exact of_decide_eq_true h.1
theorem okL_str {L n : Nat} {x : Str} (h : PyData.strOk x = true) (hl : x.length ≤ 1000) : okL L n (.str x) = true := by
  have e : (PyData.strOk x && decide (x.length ≤ 1000)) = true := by
    rw [h, decide_eq_true hl]
    rfl
  cases n <;> exact e
theorem okL_int {L n : Nat} {i : Int} (h : i.natAbs < 10 ^ 40) : okL L n (.int i) = true := by
  have h2 : decide (i.natAbs < 10 ^ 40 + L) = true := decide_eq_true (by omega)
  cases n <;> exact h2
end Wr

set_option Elab.async false
set_option linter.all false
set_option maxRecDepth 100000
set_option maxHeartbeats 4000000
namespace Wr
open PySem PySem.Spec PyProof.Rows L2 Evl
/-! ### tuples made, their object known -/
abbrev tupO (its : Array Value) : Obj := { cls := .type "tuple", data := .seq its }
theorem frz_new {P : Program} {w : World} {H : Hp} {h : Heap} {xs : List V} {its : List Value} (hz : xs.length ≤ sizeLine) (r : Vals xs its) : ObjOk P w (upd H h.objs.size (.frz (tupO its.toArray) (.tup xs))) (h.push (tupO its.toArray)) h.objs.size (.frz (tupO its.toArray) (.tup xs)) :=
  ⟨Heap.get?_push_size _ rfl, hz, its, r, ⟨_, Heap.get?_push_size _ rfl, rfl, _, rfl⟩⟩
def rTupOf (K : PySem.W.Frag) : List V → Hp → VK → Prop := fun xs H Q => ∃ p ys, xs = [.ref p] ∧ SqL K H p ys ∧ ∀ l o, H l = none → o.dict = none → Q (.ref l) (upd H l (.frz o (.tup ys)))
theorem call_tupF {X : Cx} : CallR X (.type "tuple") (rTupOf X.K) := by
  intro pins s σ H xs us Q I r ⟨p, ys, e, hq, q⟩
  subst e
  obtain ⟨u, rfl, rx⟩ := vals1 r
  cases rx
  obtain ⟨its, r', pl, hz⟩ := I.list hq
  have hlen := r'.length
  refine call_tuple_list pl.isList (fun h' kp => ?_) (by simp only [List.size_toArray] <;> omega)
  have I1 : Inv X pins σ H { s with heap := h' } := I.kept (t' := s.toks) kp
  exact ⟨.ref h'.objs.size, _, I1.laid (t' := s.toks) (fun b o e => Heap.get?_push_of_some _ e) (Nat.le_refl _) (frz_new hz r'), rfl, q _ _ (I1.hok.fresh (Nat.le_refl _)) rfl⟩
def rSlF (K : PySem.W.Frag) : V → Option Int → Option Int → Hp → VK → Prop := fun x lo hi H Q => ∃ a xs, x = .ref a ∧ SqT K H a xs ∧ (xs = cutV xs lo hi → Q (.ref a) H) ∧ ∀ p o, H p = none → o.dict = none → Q (.ref p) (upd H p (.frz o (.tup (cutV xs lo hi))))
theorem sl_tupF {X : Cx} : SlR X (rSlF X.K) := by
  intro pins s σ H x v vl vu lo hi sl Q I rx hs pl pu ⟨a, xs, e, hx, q1, q2⟩
  subst e
  cases rx
  obtain ⟨its, r, ht, hz⟩ := I.tuple hx
  have hlen : its.toArray.size = xs.length := by rw [List.size_toArray]; exact r.length.symm
  refine ⟨"tuple", _, PyProof.Rows.slot_tuple_getitem.lookup, ht.typeIs, ?_⟩
  by_cases hw : HT.sIx xs.length 0 lo = 0 ∧ HT.sIx xs.length xs.length hi = xs.length
  · refine getItem_tuple_whole ht hs pl pu (by rw [hlen]; exact hw) ⟨.ref a, H, I, rfl, q1 ?_⟩
    unfold cutV
    rw [hw.1, hw.2]
    simp
  · refine HT.getItem_tuple_cut ht hs pl pu (by rw [hlen]; exact hw) ?_ (by rw [hlen]; exact hz)
    rw [hlen]
    exact ⟨.ref s.heap.objs.size, _, I.laid (t' := s.toks) (fun b ob q => Heap.get?_push_of_some _ q) (Nat.le_refl _) (frz_new (Nat.le_trans (cutV_length xs lo hi) hz) ((r.drop (HT.sIx xs.length 0 lo)).take (HT.sIx xs.length xs.length hi - HT.sIx xs.length 0 lo))), rfl, q2 _ _ (I.hok.fresh (Nat.le_refl _)) rfl⟩
def rCatF (K : PySem.W.Frag) : R2 := fun x y H Q => ∃ a b xs ys, x = .ref a ∧ y = .ref b ∧ SqT K H a xs ∧ SqT K H b ys ∧ xs.length + ys.length ≤ sizeLine ∧ (xs = [] → Q (.ref b) H) ∧ (ys = [] → Q (.ref a) H) ∧ ∀ p o, H p = none → o.dict = none → Q (.ref p) (upd H p (.frz o (.tup (xs ++ ys))))
theorem op_catF {X : Cx} : OpR X (binaryOp .Add) (rCatF X.K) := by
  intro pins s σ H x y v u Q I rx ry ⟨a, b, xs, ys, e1, e2, ha, hb, hz, q0, q1, q2⟩
  subst e1 e2
  cases rx
  cases ry
  obtain ⟨its, r1, p1, _⟩ := I.tuple ha
  obtain ⟨its2, r2, p2, _⟩ := I.tuple hb
  by_cases hx : xs = []
  · subst hx
    cases r1
    exact cat_tup0 p1 p2 ⟨.ref b, H, I, rfl, q0 rfl⟩
  · refine HT.cat_tup p1 p2 (fun z => hx (r1.nil_iff.mp z)) (fun z => ⟨.ref a, H, I, rfl, q1 (r2.nil_iff.mp z)⟩) (fun z => ?_) (by rw [← r1.length, ← r2.length]; exact hz)
    exact ⟨.ref s.heap.objs.size, _, I.laid (t' := s.toks) (fun b ob q => Heap.get?_push_of_some _ q) (Nat.le_refl _) (frz_new (by rw [List.length_append]; exact hz) (r1.append r2)), rfl, q2 _ _ (I.hok.fresh (Nat.le_refl _)) rfl⟩
/-! ### on data -/
def cutD (ds : List PyData) (lo hi : Option Int) : List PyData := (ds.drop (HT.sIx ds.length 0 lo)).take (HT.sIx ds.length ds.length hi - HT.sIx ds.length 0 lo)
theorem cut_dps {K : PySem.W.Frag} {H : Hp} {vs : List V} {ds : List PyData} (h : DdAll K H vs ds) (lo hi : Option Int) : DdAll K H (cutV vs lo hi) (cutD ds lo hi) := by
  unfold cutV cutD
  rw [dps_len h]
  exact dps_take _ (dps_drop _ h)
section
variable {K : PySem.W.Frag} {b : List Addr} {a : Addr} {n m k : Nat} {σ : L2.St} {H H' : Hp} {ta tb te : TE} {t : TA} {P : PyData → Prop} {d : PyData} {ds es : List PyData}
theorem dq_newT {p : Addr} {o : Obj} {vs : List V} (kn : Kn b H) (hp : H p = none) (ho : o.dict = none) (hd : DqAll K b H vs ds) : Dq K b (upd H p (.frz o (.tup vs))) (.ref p) (.tuple ds) := by
  have e := hid_new (o := HO.frz o (.tup vs)) (H := H) (kn.new hp)
  exact .tup (.inl (.inr ⟨_, e⟩)) (.inl ⟨_, _, e, ho⟩) (DqAll.up hd (Ex.new hp))
def EO (to : TO) (σ : L2.St) (H : Hp) (o : Option Int) : Prop := ∀ H1, Ex H H1 → ∀ Q : Option Int → Hp → Prop, (∀ H2, Ex H1 H2 → Q o H2) → to σ H1 Q
theorem eo_none : EO tNoPart σ H none := fun H1 x Q q => q H1 (Ex.refl H1)
theorem eo_some {i : Int} (h : ED K b te σ H (.int i)) : EO (tPart te) σ H (some i) := fun H1 x Q q => h H1 x _ fun v H2 x2 hv => ⟨i, dq_int hv, q H2 x2⟩
theorem ed_slT {tl th : TO} {lo hi : Option Int} (kn : Kn b H) (ha : ED K b ta σ H (.tuple ds)) (h1 : EO tl σ H lo) (h2 : EO th σ H hi) : ED K b (tSl (rSlF K) ta tl th) σ H (.tuple (cutD ds lo hi)) := fun H1 x1 Q q =>
  ha H1 x1 _ fun x H2 x2 hx => h1 H2 (x1.trans x2) _ fun H3 x3 => h2 H3 ((x1.trans x2).trans x3) _ fun H4 x4 => by
    have hx4 := (hx.up x3).up x4
    have hx5 := hx4
    cases hx5 with
    | tup g1 gn g2 =>
      have kn4 := kn.up (((x1.trans x2).trans x3).trans x4)
      refine ⟨_, _, rfl, ex_t hid_le g1, fun e => ?_, fun p o hp ho => ?_⟩
      · have e2 : DdAll K (hid b H4) _ (cutD ds lo hi) := cut_dps g2 lo hi
        rw [← e] at e2
        exact q _ H4 ((x2.trans x3).trans x4) (.tup g1 gn e2)
      · exact q _ _ (((x2.trans x3).trans x4).trans (Ex.new hp)) (dq_newT kn4 hp ho (cut_dps g2 lo hi))
/-- t + u, as a rule on data -/
theorem cat_data {x y : V} {Q : VK} (kn : Kn b H) (hx : Dq K b H x (.tuple ds)) (hy : Dq K b H y (.tuple es)) (hl : ds.length + es.length ≤ sizeLine) (q : ∀ v H2, Ex H H2 → Dq K b H2 v (.tuple (ds ++ es)) → Q v H2) : rCatF K x y H Q := by
  have hx' := hx
  have hy' := hy
  cases hx' with
  | tup g1 gn g2 =>
    cases hy' with
    | tup f1 fn f2 =>
      refine ⟨_, _, _, _, rfl, rfl, ex_t hid_le g1, ex_t hid_le f1, by rw [dps_len g2, dps_len f2]; exact hl, fun e => ?_, fun e => ?_, fun p o hp ho => ?_⟩
      · subst e
        have : ds = [] := by cases g2; rfl
        subst this
        exact q _ H (Ex.refl H) hy
      · subst e
        have : es = [] := by cases f2; rfl
        subst this
        rw [List.append_nil] at q
        exact q _ H (Ex.refl H) hx
      · exact q _ _ (Ex.new hp) (dq_newT kn hp ho (dps_app g2 f2))
theorem ed_catT (kn : Kn b H) (ha : ED K b ta σ H (.tuple ds)) (hb : ED K b tb σ H (.tuple es)) (hl : ds.length + es.length ≤ sizeLine) : ED K b (tOp (rCatF K) ta tb) σ H (.tuple (ds ++ es)) :=
  ed_op ha hb fun H1 x y Q x1 hx hy q => cat_data (kn.up x1) hx hy hl fun v H2 x2 hv => q v H2 x2 hv
theorem eg_catT {P1 P2 : PyData → Prop} (ha : a ∈ b) (h1 : EG K b a n k ta σ H P1) (h2 : EG K b a k m tb σ H P2) (hi : ∀ d e, P1 d → P2 e → ∃ ds es, d = .tuple ds ∧ e = .tuple es ∧ ds.length + es.length ≤ sizeLine ∧ P (.tuple (ds ++ es))) : EG K b a n m (tOp (rCatF K) ta tb) σ H P :=
  eg_op ha h1 h2 fun d e H1 x y Q p1 p2 _ kn1 hx hy q => by
    obtain ⟨ds, es, rfl, rfl, hl, p⟩ := hi d e p1 p2
    exact cat_data kn1 hx hy hl fun v H2 x2 hv => q v _ H2 x2 hv p
theorem eg_lst {R : List PyData → Prop} (h : EGA K b a n m t σ H R) (hl : ∀ ds, R ds → ds.length ≤ sizeLine ∧ P (.list ds)) : EG K b a n m (tLst t) σ H P := fun H1 x1 kn bg Q q =>
  h H1 x1 kn bg _ fun vs ds H2 x2 b2 hvs r => ⟨by rw [dps_len hvs]; exact (hl ds r).1, fun p hp => q _ (.list ds) _ (x2.trans (exb (Ex.new hp))) (b2.ex (Ex.new hp)) (.lst (.inl (.inl (hid_new ((x2.kn kn b2).new hp)))) (hvs.up (Ex.new hp))) (hl ds r).2⟩
/-- tuple(list) -/
theorem eg_tupOf {P1 : PyData → Prop} (h : EG K b a n m ta σ H P1) (hi : ∀ d, P1 d → ∃ ds, d = .list ds ∧ P (.tuple ds)) : EG K b a n m (tCB (rTupOf K) (tCons ta tNil)) σ H P := fun H1 x1 kn bg Q q =>
  h H1 x1 kn bg _ fun v d H2 x2 b2 hv p1 => by
    obtain ⟨ds, rfl, p⟩ := hi d p1
    cases hv with
    | lst g1 g2 =>
      refine ⟨_, _, rfl, ex_l hid_le g1, fun l o hl ho => ?_⟩
      exact q _ (.tuple ds) _ (x2.trans (exb (Ex.new hl))) (b2.ex (Ex.new hl)) (dq_newT (x2.kn kn b2) hl ho g2) p
/-- a list's beginning, how much is drawn -/
theorem eg_slL {P1 P2 : PyData → Prop} (ha : a ∈ b) (h1 : EG K b a n k ta σ H P1) (h2 : EG K b a k m te σ H P2) (hi : ∀ d e, P1 d → P2 e → ∃ ds i, d = .list ds ∧ e = .int i ∧ P (.list (cutD ds none (some i)))) : EG K b a n m (tSl (rSlL K) ta tNoPart (tPart te)) σ H P := fun H1 x1 kn bg Q q =>
  h1 H1 x1 kn bg _ fun x d H2 x2 b2 hx p1 => h2 H2 (x1.trans x2) (x2.kn kn b2) b2 _ fun y e H3 x3 b3 hy p2 => by
    obtain ⟨ds, i, rfl, rfl, p⟩ := hi d e p1 p2
    have hx3 := hx.upB ha x3
    cases hx3 with
    | lst g1 g2 =>
      have kn3 := x3.kn (x2.kn kn b2) b3
      exact ⟨i, dq_int hy, _, _, rfl, ex_l hid_le g1, fun r hr => q _ _ _ ((x2.trans x3).trans (exb (Ex.new hr))) (b3.ex (Ex.new hr)) (.lst (.inl (.inl (hid_new (kn3.new hr)))) (DqAll.up (cut_dps g2 none (some i)) (Ex.new hr))) p⟩
/-- int(truth) -/
def rInt1 : List V → Hp → VK → Prop := fun xs H Q => (∃ i, xs = [.int i] ∧ Q (.int i) H) ∨ ∃ k, xs = [.bl k] ∧ Q (.int (if k then 1 else 0)) H
theorem call_intB {X : Cx} : CallR X (.type "int") rInt1 := call_int1
theorem ed_intB {c : Bool} (ha : ED K b ta σ H (.bool c)) : ED K b (tCB rInt1 (tCons ta tNil)) σ H (.int (if c then 1 else 0)) := fun H1 x1 Q q =>
  ha H1 x1 _ fun v H2 x2 hv => .inr ⟨c, by rw [dq_bl hv], q _ H2 x2 (.int _)⟩
/-! ### hiding one more -/
theorem hide_ex {D : Addr} (hD : H D = none) : Ex (hid b H) (hid (D :: b) H) := fun c o h => by
  obtain ⟨h1, h2⟩ := hid_some h
  have : c ∉ D :: b := fun z => by
    rcases List.mem_cons.mp z with rfl | z
    · rw [hD] at h2; cases h2
    · exact h1 z
  rw [hid_ne this]
  exact h2
theorem Dq.hide {D : Addr} {v : V} (h : Dq K b H v d) (hD : H D = none) : Dq K (D :: b) H v d := dp_ex (hide_ex hD) d v h
theorem show_ex {D : Addr} : Ex (hid (D :: b) H) (hid b H) := fun c o h => by
  obtain ⟨h1, h2⟩ := hid_some h
  rw [hid_ne fun z => h1 (List.mem_cons_of_mem _ z)]
  exact h2
theorem put_ex {D : Addr} {o : HO} : Ex (hid (D :: b) H) (hid (D :: b) (upd H D o)) := fun c u h => by
  obtain ⟨h1, h2⟩ := hid_some h
  rw [hid_ne h1, upd_ne fun z => h1 (by rw [z]; exact List.mem_cons_self)]
  exact h2
/-- [.. for i in range(n)], each item drawn -/
theorem eg_lcR {i0 c N : Nat} {R : Nat → PyData → Prop} (ha : a ∈ b) (hcount : ∀ H1, ExB a H H1 → Kn b H1 → ED K b ta σ H1 (.int (N : Nat))) (hN : N ≤ 1000)
    (he : ∀ (D : Addr) (i f : Nat) (H0 H1 : Hp), i < N → ExB a H H0 → H0 D = none → ExB a H0 H1 → EG K (D :: b) a (f + c) f te ((wipe σ [i0]).set i0 (some (.int (i : Nat)))) H1 (R i)) :
    EG K b a (m + N * c) m (tLc (iRng1 (tCons ta tNil)) (gName i0) tYes te [i0]) σ H (fun d => ∃ ds, d = .list ds ∧ ds.length = N ∧ ∀ i x, ds[i]? = some x → R i x) := fun H1 x1 kn bg Q q =>
  hcount H1 x1 kn H1 (Ex.refl H1) _ fun v H2 x2 hv => by
    have e := dq_int hv
    subst e
    have hsl : sizeLine = 16777216 := sizeLine_eq
    have kn2 := kn.up x2
    have bg2 := bg.ex x2
    refine ⟨(N : Nat), rfl, by omega, by omega, fun D hD => ?_⟩
    rw [show ((N : Nat) : Int).toNat = N from rfl]
    have hDa : D ≠ a := fun z => bg2.there (z ▸ hD)
    refine lc_range (Pv := fun i H3 => ExB a H2 H3 ∧ Kn (D :: b) H3 ∧ Bag a (m + (N - i) * c) H3 ∧ ∃ acc ds, H3 D = some (.lst acc) ∧ DqAll K (D :: b) H3 acc ds ∧ ds.length = i ∧ ∀ j x, ds[j]? = some x → R j x) ?_ ?_ ?_
    · refine ⟨exb (Ex.new hD), fun z hz => ?_, ?_, [], [], upd_same, .nil, rfl, fun j x h => by simp at h⟩
      · rcases List.mem_cons.mp hz with rfl | hz
        · rw [upd_same]; intro q; cases q
        · rw [upd_ne (fun z' : z = D => kn2.new hD (by rw [← z']; exact hz))]
          exact kn2 z hz
      · rw [Nat.sub_zero]
        exact bg2.ex (Ex.new hD)
    · intro i H3 hi ⟨x3, k3, b3, acc, ds, hd3, hacc, hlen, hR⟩
      refine ⟨wipe_set1, ?_⟩
      refine et_yes (H := H3) _ (Ex.refl _) _ fun H4 x4 => ?_
      rw [if_pos rfl]
      have eN : N - i = (N - (i + 1)) + 1 := by omega
      have bb : Bag a ((m + (N - (i + 1)) * c) + c) H4 := (b3.ex x4).le (by rw [eN, Nat.add_mul]; omega)
      rw [show (0 + (i : Int)) = ((i : Nat) : Int) from Int.zero_add _]
      refine he D i (m + (N - (i + 1)) * c) H2 H4 hi (x1.trans (exb x2)) hD (x3.trans (exb x4)) H4 (ExB.refl a H4) (k3.up x4) bb _ fun y d H5 x5 b5 hy r => ?_
      have hd5 : H5 D = some (.lst acc) := x5 _ _ hDa (x4 _ _ hd3)
      have hm : a ∈ D :: b := List.mem_cons_of_mem _ ha
      refine ⟨acc, hd5, ?_, ?_, ?_, ?_, acc ++ [y], ds ++ [d], upd_same, ?_, ?_, ?_⟩
      · rw [dps_len hacc]; omega
      · intro z o hz h
        by_cases e : z = D
        · subst e; rw [hD] at h; cases h
        · rw [upd_ne e]
          exact x5 _ _ hz (x4 _ _ (x3 _ _ hz h))
      · intro z hz
        by_cases e : z = D
        · subst e; rw [upd_same]; intro q; cases q
        · rw [upd_ne e]
          exact x5.kn (k3.up x4) b5 z hz
      · obtain ⟨g, x, h1, r'⟩ := b5
        exact ⟨g, x, by rw [upd_ne (Ne.symm hDa)]; exact h1, r'⟩
      · exact dps_ex put_ex _ _ (dps_app (DqAll.upB hm (DqAll.up hacc x4) x5) (.cons hy .nil))
      · rw [List.length_append, hlen]; rfl
      · intro j x hj
        by_cases hjl : j < ds.length
        · rw [List.getElem?_append_left hjl] at hj
          exact hR j x hj
        · rw [List.getElem?_append_right (by omega)] at hj
          have : j - ds.length = 0 := by
            by_cases hz : j - ds.length = 0
            · exact hz
            · rw [List.getElem?_eq_none (by rw [List.length_singleton]; omega)] at hj
              cases hj
          rw [this] at hj
          have ex : d = x := Option.some.inj hj
          have ej : j = i := by omega
          rw [ej, ← ex]
          exact r
    · intro H3 ⟨x3, k3, b3, acc, ds, hd3, hacc, hlen, hR⟩
      rw [Nat.sub_self, Nat.zero_mul, Nat.add_zero] at b3
      refine q _ (.list ds) H3 ((exb x2).trans x3) b3 (.lst (.inl (.inl ?_)) (dps_ex show_ex _ _ hacc)) ⟨ds, rfl, hlen, hR⟩
      rw [hid_ne (kn2.new hD)]
      exact hd3
end
end Wr

set_option Elab.async false
set_option linter.all false
set_option maxRecDepth 100000
set_option maxHeartbeats 4000000
namespace Wr
open PySem PySem.Spec PyProof.Rows L2 Evl
abbrev s_worthT : Stmt := topS 28
abbrev NWo : List Str := ["_law_bag_here", "_law_way", "_law_great"]
theorem sc_worthT : FnScope NWo ["_law_bag_here"] (defScope s_worthT) := ⟨rfl, rfl, rfl, by decide +kernel, rfl, by decide +kernel, by decide +kernel⟩
section
variable {K : PySem.W.Frag} {b : List Addr} {a : Addr} {n m k : Nat} {σ : L2.St} {H H' : Hp} {ta tb te : TE} {t : TA} {tt : TT} {ts t1 t2 : TS} {P P' : PyData → Prop} {d : PyData}
theorem eg_I {C : Int → Int → Prop} {g : Int → Int → Int} {P1 P2 : PyData → Prop} (ha : a ∈ b) (h1 : EG K b a n k ta σ H P1) (h2 : EG K b a k m tb σ H P2) (hi : ∀ d e, P1 d → P2 e → ∃ i j, d = .int i ∧ e = .int j ∧ C i j ∧ P (.int (g i j))) : EG K b a n m (tOp (rI C fun i j => .int (g i j)) ta tb) σ H P :=
  eg_op ha h1 h2 fun d e H1 x y Q p1 p2 _ _ hx hy q => by
    obtain ⟨i, j, rfl, rfl, c, p⟩ := hi d e p1 p2
    exact ⟨i, j, dq_int hx, dq_int hy, c, q _ _ H1 (Ex.refl H1) (.int _) p⟩
end
section
variable {P : Program} {w : World} {K : PySem.W.Frag} {mg : Str → Option Value} {base : Heap} {f g g2 : Addr} {fd gd gd2 : FuncData}
theorem ok_worthT (D : Def K mg "_law_worth" s_worthT ["_law_bag_here"] f fd) (D1 : Def K mg "_law_take" s_take ["_law_bag_here", "_law_many"] g gd) :
    FnOk P w K mg base CX0 2 f fd ["_law_bag_here"] (spG K 0 (· = []) fun _ d => worthD d = true) := by
  refine D.F.ok sc_worthT (fun vs H Q E h => spG_len (fun ds e => by rw [e]; rfl) h) (fun cdv A outer s H vs Q E hr h => ?_)
  obtain ⟨b, a, k, ws, ds, rfl, hab, kn, bg, hd, rfl, q⟩ := h
  cases hd
  have G1 := ok_take (P := P) (w := w) (base := base) D1
  refine ⟨_, pss_cons (ps_set (i := 1) sc_worthT.nd rfl (Or.inl rfl) (pe_cd D1 G1 hr (pa_cons (pv 0) (pa_cons pe_int pa_nil))))
    (pss_cons (ps_if (pt_cmpR op_lt (pv 1) pe_int (nomark _)) (pss_one (ps_ret (pe_op op_sub (pe_cd D1 G1 hr (pa_cons (pv 0) (pa_cons pe_int pa_nil))) pe_int))) pss_nil)
    (pss_cons (ps_set (i := 2) sc_worthT.nd rfl (Or.inl rfl) (pe_ix ix_list (pe_lst (pa_cons (pe_op op_pow pe_int pe_int) (pa_cons (pe_op op_pow pe_int pe_int) (pa_cons (pe_op op_add (pe_op op_pow pe_int pe_int) (pe_cd D1 G1 hr (pa_cons (pv 0) (pa_cons (pe_op op_pow pe_int pe_int) pa_nil)))) pa_nil)))) (pe_cd D1 G1 hr (pa_cons (pv 0) (pa_cons pe_int pa_nil))) (fun _ _ => rfl)))
    (pss_one (ps_ret (pe_op op_mul (pv 2) (pe_ix ix_list (pe_lst (pa_cons pe_int (pa_cons (pe_un un_neg pe_int) pa_nil))) (pe_cd D1 G1 hr (pa_cons (pv 0) (pa_cons pe_int pa_nil))) (fun _ _ => rfl))))))), ?_⟩
  have pw : ∀ {σ'} {H'} (j : Int) (c : CPow 10 j), ED K b (tOp (rI CPow fun i j => .int (i ^ j.toNat)) (tC (.int 10)) (tC (.int j))) σ' H' (.int (10 ^ j.toNat)) := fun {_ _} j c => ed_I ed_int ed_int c fun _ => .int _
  refine GS.fin (n := k) (m := k) (P := fun d => worthD d = true) (gs_set (k := k) (eg_take hab rfl (by decide) (by decide)) fun v d H' x hv ⟨r, er, r0, r1⟩ => ?_) kn bg.any fun v d H' x bg' hv p => q v d H' x bg'.any hv p
  subst er
  refine gs_if (c := decide (r < 7)) (fun H1 x1 _ => et_t (ed_lt (ed_var rfl (hv.upB hab x1)) ed_int)) (fun _ => gs_ret (eg_I0 (k := k) hab (eg_take hab rfl (by decide) (by decide)) (eg_pure (P := (· = .int 4)) (fun _ _ _ => ed_int) rfl) ?_)) fun _ =>
    gs_set (k := k) (P1 := fun d => ∃ j, d = .int j ∧ 0 ≤ j ∧ j ≤ 1000000000000) (eg_ixL (k := k) hab (eg_lst (P := fun d => ∃ r, d = .list [.int 1000000000000, .int 1000000, .int (100000000000 + r)] ∧ 0 ≤ r ∧ r < 1000000000) (ega_cons (k := k) (P := (· = .int 1000000000000)) hab (eg_pure (fun _ _ _ => pw 12 ⟨by decide, by decide, by decide⟩) rfl) (ega_cons (k := k) (P := (· = .int 1000000)) hab (eg_pure (fun _ _ _ => pw 6 ⟨by decide, by decide, by decide⟩) rfl)
      (ega_cons (k := k) (P := fun d => ∃ r, d = .int (100000000000 + r) ∧ 0 ≤ r ∧ r < 1000000000) hab (eg_I0 (k := k) hab (eg_pure (P := (· = .int 100000000000)) (fun _ _ _ => pw 11 ⟨by decide, by decide, by decide⟩) rfl) (eg_takeE (u := 1000000000) (P1 := (· = .int 1000000000)) hab rfl (eg_pure (fun _ _ _ => pw 9 ⟨by decide, by decide, by decide⟩) rfl) (fun d e => ⟨1000000000, e, by decide, by decide, by decide⟩)) ?_) ega_nil))) ?_) (eg_take hab rfl (by decide) (by decide)) ?_) fun v2 d2 H2 x2 hv2 ⟨j, ej, j0, j1⟩ =>
    gs_ret (eg_I (k := k) hab (eg_var (i := 2) (P := (· = .int j)) rfl hab (by rw [ej] at hv2; exact hv2) rfl) (eg_ixL (k := k) (P := fun d => d = .int 1 ∨ d = .int (-1)) hab (eg_pure (P := (· = .list [.int 1, .int (-1)])) (fun H1 x1 kn1 => ed_lst kn1 (ea_cons ed_int (ea_cons (ed_neg ed_int) ea_nil)) (by decide)) rfl) (eg_take hab rfl (by decide) (by decide)) ?_) ?_)
  · rintro d e ⟨i, rfl, i0, i1⟩ rfl
    refine ⟨i, 4, rfl, rfl, ?_⟩
    show (decide (_ ≤ i - 4) && decide (i - 4 ≤ _)) = true
    rw [decide_eq_true (by omega), decide_eq_true (by omega)]
    rfl
  · rintro d e rfl ⟨i, rfl, i0, i1⟩
    exact ⟨_, i, rfl, rfl, i, rfl, i0, i1⟩
  · rintro l ⟨d1, r1', rfl, rfl, d2, r2', rfl, rfl, d3, r3', rfl, ⟨r', rfl, h0, h1⟩, rfl⟩
    exact ⟨by show 3 ≤ sizeLine; decide, r', rfl, h0, h1⟩
  · rintro d e ⟨r', rfl, h0, h1⟩ hi
    obtain ⟨i, z, rfl, hz, hm⟩ := intB_at (ds := [.int 1000000000000, .int 1000000, .int (100000000000 + r')]) hi (by show (3 : Int) ≤ ((3 : Nat) : Int); decide)
    refine ⟨_, i, z, rfl, rfl, hz, ?_⟩
    simp only [List.mem_cons, List.not_mem_nil, or_false] at hm
    rcases hm with rfl | rfl | rfl
    · exact ⟨_, rfl, by decide, by decide⟩
    · exact ⟨_, rfl, by decide, by decide⟩
    · exact ⟨_, rfl, by omega, by omega⟩
  · rintro d e rfl hi
    obtain ⟨i, z, rfl, hz, hm⟩ := intB_at (ds := [.int 1, .int (-1)]) hi (by decide)
    refine ⟨_, i, z, rfl, rfl, hz, ?_⟩
    simp only [List.mem_cons, List.not_mem_nil, or_false] at hm
    exact hm
  · rintro d e rfl he
    rcases he with rfl | rfl
    · refine ⟨j, 1, rfl, rfl, .inr ⟨by decide, by decide⟩, ?_⟩
      show (decide (_ ≤ j * 1) && decide (j * 1 ≤ _)) = true
      rw [decide_eq_true (by omega), decide_eq_true (by omega)]
      rfl
    · refine ⟨j, -1, rfl, rfl, .inr ⟨by decide, by decide⟩, ?_⟩
      show (decide (_ ≤ j * -1) && decide (j * -1 ≤ _)) = true
      rw [decide_eq_true (by omega), decide_eq_true (by omega)]
      rfl
end
end Wr

set_option Elab.async false
set_option linter.all false
set_option maxRecDepth 100000
set_option maxHeartbeats 4000000
namespace Wr
open PySem PySem.Spec PyProof.Rows L2 Evl
/-! ### heads: how many values a call takes, by its name -/
abbrev Hds := List (Str × Nat)
def hdK (hs : Hds) : List (Key × V) := hs.map fun p => (Sum.inr p.1, V.int (p.2 : Nat))
structure HdC (hs : Hds) : Prop where
  l0 : hs ≠ []
  l6 : hs.length ≤ 6
  le : ∀ p ∈ hs, p.2 ≤ 3
  nd : (hs.map Prod.fst).Nodup
  nm : ∀ p ∈ hs, nameS p.1 = true ∧ PyData.strOk p.1 = true
def HdAt (H : Hp) (h : Addr) (hs : Hds) : Prop := H h = some (.dK (hdK hs))
theorem HdAt.ne {a h : Addr} {n : Nat} {H : Hp} {hs : Hds} (x : HdAt H h hs) (bg : Bag a n H) : h ≠ a := fun e => by
  obtain ⟨g, y, h1, _⟩ := bg
  unfold HdAt at x
  rw [e, h1] at x
  cases x
theorem HdAt.upB {a h : Addr} {H H' : Hp} {hs : Hds} (x : HdAt H h hs) (ne : h ≠ a) (e : ExB a H H') : HdAt H' h hs := e _ _ ne x
theorem HdAt.up {h : Addr} {H H' : Hp} {hs : Hds} (x : HdAt H h hs) (e : Ex H H') : HdAt H' h hs := e _ _ x
theorem hd_val {hs : Hds} (nd : (hs.map Prod.fst).Nodup) {p : Str × Nat} (hp : p ∈ hs) : valV (hdK hs) (Sum.inr p.1) = some (.int (p.2 : Nat)) := by
  unfold valV hdK
  induction hs with
  | nil => cases hp
  | cons x r ih =>
    rw [List.map_cons] at nd
    have nd' := List.nodup_cons.mp nd
    rw [List.map_cons]
    rcases List.mem_cons.mp hp with rfl | hp
    · rw [List.find?_cons_of_pos (by simp)]
      rfl
    · have : x.1 ≠ p.1 := fun e => nd'.1 (by rw [e]; exact List.mem_map.mpr ⟨p, hp, rfl⟩)
      rw [List.find?_cons_of_neg (by simpa using this)]
      exact ih nd'.2 hp
/-! ### what values are -/
def opsW : List Str := ["add", "less", "times", "over", "same", "below"]
def nxyzW : List Str := ["n", "x", "y", "z"]
inductive ValP (hs : Hds) : Nat → PyData → Prop
  | num {n : Nat} {d : PyData} : worthD d = true → ValP hs (n + 1) d
  | name {n : Nat} {x : Str} : x ∈ nxyzW → ValP hs (n + 1) (.tuple [.str "name", .str x])
  | op {n : Nat} {o : Str} {c d : PyData} : o ∈ opsW → ValP hs n c → ValP hs n d → ValP hs (n + 1) (.tuple [.str o, c, d])
  | call {n : Nat} {x : Str} {ds : List PyData} : (x, ds.length) ∈ hs → (∀ d ∈ ds, ValP hs n d) → ValP hs (n + 1) (.tuple [.str "call", .str x, .tuple ds])
/-- a value is drawn, at most n deep -/
def spV (K : PySem.W.Frag) (n : Nat) : Sp := fun vs H Q _ => 0 < n ∧ ∃ (b : List Addr) (a h : Addr) (hs : Hds), vs = [.ref a, .ref h, .int (n : Nat)] ∧ a ∈ b ∧ Kn b H ∧ Bag a 0 H ∧ HdAt H h hs ∧ HdC hs ∧ ∀ v d H', ExB a H H' → Bag a 0 H' → Dq K b H' v d → ValP hs n d → Q v H'
abbrev s_value : Stmt := topS 29
abbrev NVa : List Str := ["_law_bag_here", "_law_heads", "_law_deep", "_law_way", "_law_op", "_law_name", "_law_k"]
abbrev PVa : List Str := ["_law_bag_here", "_law_heads", "_law_deep"]
theorem sc_value : FnScope NVa PVa (defScope s_value) := ⟨rfl, rfl, rfl, by decide +kernel, rfl, by decide +kernel, by decide +kernel⟩
def rLenDk : List V → Hp → VK → Prop := fun xs H Q => ∃ a kvs, xs = [V.ref a] ∧ H a = some (.dK kvs) ∧ Q (.int kvs.length) H
theorem call_lenDk {X : Cx} : CallR X (.builtin "len") rLenDk := call_lenD
def rSortDk : List V → Hp → VK → Prop := fun xs H Q => ∃ (a : Addr) (kvs : List (Key × V)) (ks : List Str), xs = [.ref a] ∧ Rd H a (.dK kvs) ∧ kvs.map (·.1) = ks.map Sum.inr ∧ ks.length < 64 ∧ ∀ ys p, ys.Perm ks → sortedS ys = true → H p = none → Q (.ref p) (upd H p (.lst (ys.map V.str)))
theorem call_sortDk {X : Cx} (hc : X.calm = true) : CallR X (.builtin "sorted") rSortDk := call_sortedD hc
section
variable {K : PySem.W.Frag} {b : List Addr} {a h : Addr} {n m k : Nat} {σ : L2.St} {H H' : Hp} {ta tb te : TE} {t : TA} {tt : TT} {ts t1 t2 : TS} {P P' : PyData → Prop} {d : PyData} {hs : Hds}
theorem ed_lenDk {i : Nat} (hσ : σ[i]? = some (some (.ref h))) (hd : HdAt H h hs) : ED K b (tCB rLenDk (tCons (tVar i) tNil)) σ H (.int (hs.length : Nat)) := fun H1 x1 Q q =>
  ⟨.ref h, hσ, h, hdK hs, rfl, x1 _ _ hd, by
    have e : (hdK hs).length = hs.length := List.length_map ..
    rw [e]
    exact q _ H1 (Ex.refl H1) (.int _)⟩
theorem eg_sortDk {i : Nat} (hσ : σ[i]? = some (some (.ref h))) (hd : HdAt H h hs) (ne : h ≠ a) (C : HdC hs) : EG K b a n n (tCB rSortDk (tCons (tVar i) tNil)) σ H (fun d => ∃ ys : List Str, d = .list (ys.map .str) ∧ ys.Perm (hs.map Prod.fst)) := fun H1 x1 kn bg Q q => by
  have hd1 := hd.upB ne x1
  refine ⟨.ref h, hσ, h, hdK hs, hs.map Prod.fst, rfl, .inl hd1, ?_, ?_, fun ys p pm so hp => ?_⟩
  · unfold hdK
    rw [List.map_map, List.map_map]
    rfl
  · rw [List.length_map]
    have := C.l6
    omega
  · exact q _ (.list (ys.map .str)) _ (exb (Ex.new hp)) (bg.ex (Ex.new hp)) (.lst (.inl (.inl (hid_new (kn.new hp)))) (strs_dps ys)) ⟨ys, rfl, pm⟩
theorem ed_dget {i j : Nat} {p : Str × Nat} (hσ : σ[i]? = some (some (.ref h))) (hx : σ[j]? = some (some (.str p.1))) (hd : HdAt H h hs) (C : HdC hs) (hp : p ∈ hs) : ED K b (tDGet (tVar i) (tVar j)) σ H (.int (p.2 : Nat)) := fun H1 x1 Q q =>
  ⟨.ref h, hσ, .str p.1, hx, h, .int (p.2 : Nat), rfl, .inl ⟨hdK hs, Sum.inr p.1, .inl (x1 _ _ hd), rfl, (hd_val C.nd hp).symm⟩, q _ H1 (Ex.refl H1) (.int _)⟩
theorem eg_nxyz {E : XK} {i : Nat} (ha : a ∈ b) (hb : σ[i]? = some (some (.ref a))) : EG K b a n n (tOp rIxS (tC (.str "nxyz")) (tCall (spTake K) [] E (tCons (tVar i) (tCons (tC (.int 4)) tNil)))) σ H (fun d => ∃ x ∈ nxyzW, d = .str x) :=
  eg_op (k := n) (P1 := (· = .str "nxyz")) (P2 := IntB 4) ha (eg_pure (fun _ _ _ => ed_str) rfl) (eg_take ha hb (by decide) (by decide)) fun d e H1 x y Q p1 p2 _ _ hx hy q => by
    subst p1
    obtain ⟨r, rfl, r0, r1⟩ := p2
    rw [dq_str hx, dq_int hy]
    rcases (show r = 0 ∨ r = 1 ∨ r = 2 ∨ r = 3 by omega) with rfl | rfl | rfl | rfl
    · exact ⟨"nxyz", 0, 110, rfl, rfl, by decide +kernel, by decide +kernel, q _ (.str "n") H1 (Ex.refl H1) (.str _) ⟨"n", by decide +kernel, rfl⟩⟩
    · exact ⟨"nxyz", 1, 120, rfl, rfl, by decide +kernel, by decide +kernel, q _ (.str "x") H1 (Ex.refl H1) (.str _) ⟨"x", by decide +kernel, rfl⟩⟩
    · exact ⟨"nxyz", 2, 121, rfl, rfl, by decide +kernel, by decide +kernel, q _ (.str "y") H1 (Ex.refl H1) (.str _) ⟨"y", by decide +kernel, rfl⟩⟩
    · exact ⟨"nxyz", 3, 122, rfl, rfl, by decide +kernel, by decide +kernel, q _ (.str "z") H1 (Ex.refl H1) (.str _) ⟨"z", by decide +kernel, rfl⟩⟩
/-- a value drawn by a call -/
theorem eg_val {E : XK} {i j l : Nat} (hl : 0 < l) (ha : a ∈ b) (hb : σ[i]? = some (some (.ref a))) (hh : σ[j]? = some (some (.ref h))) (hd : HdAt H h hs) (ne : h ≠ a) (C : HdC hs) (he : ∀ H1, ED K b te σ H1 (.int (l : Nat))) :
    EG K b a n m (tCall (spV K l) [] E (tCons (tVar i) (tCons (tVar j) (tCons te tNil)))) σ H (ValP hs l) := fun H1 x1 kn bg Q q =>
  ⟨.ref a, hb, .ref h, hh, he H1 H1 (Ex.refl H1) _ fun v H2 x2 hv => by
    have e := dq_int hv
    subst e
    exact ⟨hl, b, a, h, hs, rfl, ha, kn.up x2, bg.ex x2, (hd.upB ne x1).up x2, C, fun v d H3 x3 b3 hv p => q v d H3 ((exb x2).trans x3) b3 hv p⟩⟩
end
section
variable {P : Program} {w : World} {K : PySem.W.Frag} {mg : Str → Option Value} {base : Heap} {f g g2 : Addr} {fd gd gd2 : FuncData}
theorem ok_value (D : Def K mg "_law_value" s_value PVa f fd) (D1 : Def K mg "_law_take" s_take ["_law_bag_here", "_law_many"] g gd) (D2 : Def K mg "_law_worth" s_worthT ["_law_bag_here"] g2 gd2) (B : Blt mg) (hso : mg "sorted" = none) : ∀ n, FnOk P w K mg base CX0 (n + 2) f fd PVa (spV K n)
  | 0 => ⟨fun _ _ _ _ h => absurd h.1 (by decide), fun _ _ _ _ _ _ _ _ _ _ _ _ _ h => absurd h.1 (by decide)⟩
  | n + 1 => by
    have IH := ok_value D D1 D2 B hso n
    refine D.F.ok sc_value (fun vs H Q E ⟨_, b, a, h, hs, e, _⟩ => by rw [e]; rfl) (fun cdv A outer s H vs Q E hr h => ?_)
    obtain ⟨_, b, a, h, hs, rfl, hab, kn, bg, hd, C, q⟩ := h
    have ne := hd.ne bg
    have G1 := ok_take (P := P) (w := w) (base := base) D1
    have G2 := ok_worthT (P := P) (w := w) (base := base) D2 D1
    have r1 : Room 1 _ := hr.mono (by omega)
    have r2 : Room 2 _ := hr.mono (by omega)
    refine ⟨_, pss_cons (ps_set (i := 3) sc_value.nd rfl (Or.inl rfl) (pe_cd D1 G1 r1 (pa_cons (pv 0) (pa_cons pe_int pa_nil))))
      (pss_cons (ps_if (pt_cmpR op_lt (pv 3) pe_int (nomark _)) (pss_one (ps_ret (pe_cd D2 G2 r2 (pa_cons (pv 0) pa_nil)))) pss_nil)
      (pss_cons (ps_if (PW.pt (pw_or (pt_cmpR (op_eqD (hu64 hr)) (pv 2) pe_int (nomark _)) (pw_or1 (pt_cmpR op_lt (pv 3) pe_int (nomark _))))) (pss_one (ps_ret (pe_tupF (pa_cons pe_str (pa_cons (pe_ix ix_str pe_str (pe_cd D1 G1 r1 (pa_cons (pv 0) (pa_cons pe_int pa_nil))) (fun _ _ => rfl)) pa_nil))))) pss_nil)
      (pss_cons (ps_if (pt_cmpR op_lt (pv 3) pe_int (nomark _)) (pss_cons (ps_set (i := 4) sc_value.nd rfl (Or.inl rfl) (pe_ix ix_list (pe_lst (pa_cons pe_str (pa_cons pe_str (pa_cons pe_str (pa_cons pe_str (pa_cons pe_str (pa_cons pe_str pa_nil))))))) (pe_cd D1 G1 r1 (pa_cons (pv 0) (pa_cons pe_int pa_nil))) (fun _ _ => rfl)))
        (pss_one (ps_ret (pe_tupF (pa_cons (pv 4) (pa_cons (pe_cd D IH hr (pa_cons (pv 0) (pa_cons (pv 1) (pa_cons (pe_op op_sub (pv 2) pe_int) pa_nil)))) (pa_cons (pe_cd D IH hr (pa_cons (pv 0) (pa_cons (pv 1) (pa_cons (pe_op op_sub (pv 2) pe_int) pa_nil)))) pa_nil))))))) pss_nil)
      (pss_cons (ps_set (i := 5) sc_value.nd rfl (Or.inl rfl) (pe_ix (r := rIxL K) ix_list (pe_callB (call_sortDk rfl) rfl hso bb_sorted (pa_cons (pv 1) pa_nil)) (pe_cd D1 G1 r1 (pa_cons (pv 0) (pa_cons (pe_callB call_lenDk rfl B.len bb_len (pa_cons (pv 1) pa_nil)) pa_nil))) (fun _ _ => rfl)))
      (pss_one (ps_ret (pe_tupF (pa_cons pe_str (pa_cons (pv 5) (pa_cons (pe_callTy call_tupF rfl B.tuple bt_tuple (pa_cons (pe_lc (own := [("_law_k", 6)]) (g := gName 6) (tt := tYes) rfl sc_value.nd (pi_range1 rfl B.range (pa_cons (pe_dget (hu_of hr) (pv 1) (pv 5) (fun _ _ => rfl)) pa_nil)) (blkOk_by (N := NVa) (sc := defScope s_value) (by decide +kernel)) (fun _ _ _ _ _ => pg_name (i := 6) sc_value.nd rfl (Or.inl rfl)) (fun _ _ _ _ _ => pts_nil)
        (fun _ _ _ _ _ => pe_cd D IH hr (pa_cons (pv 0) (pa_cons (pv 1) (pa_cons (pe_op (r := rI0 fun i j => .int (i - j)) op_sub (pv 2) pe_int) pa_nil))))) pa_nil)) pa_nil)))))))))), ?_⟩
    have tk : ∀ {σ' : L2.St} {H'' : Hp} {u : Int}, σ'[0]? = some (some (.ref a)) → 0 < u → u < 1073741824 → EG K b a 0 0 (tCall (spTake K) [] E0 (tCons (tVar 0) (tCons (tC (.int u)) tNil))) σ' H'' (IntB u) := fun {_ _ _} h1 h2 h3 => eg_take hab h1 h2 h3
    refine GS.fin (n := 0) (m := 0) (P := ValP hs (n + 1)) (gs_set (k := 0) (tk rfl (by decide) (by decide)) fun v d H1 x1 hv ⟨r, er, r0, r1⟩ => ?_) kn bg q
    subst er
    have ev := dq_int hv
    subst ev
    have hd1 := hd.upB ne x1
    refine gs_if (c := decide (r < 3)) (fun H2 x2 _ => et_t (ed_lt (K := K) (b := b) (ed_var (i := 3) (d := .int r) rfl (.int r)) ed_int)) (fun _ => gs_ret (EG.imp (P := fun d => worthD d = true) (eg_call (c := 0) (S := (· = [])) hab rfl ega_nil (fun _ e => e) fun _ _ _ z => z) fun d p => .num p)) fun _ => ?_
    refine gs_if (c := PyData.eqv (.int ((n + 1 : Nat) : Int)) (.int 1) || decide (r < 6)) (fun H2 x2 _ => ?_) (fun _ => gs_ret (eg_tup (ega_cons (k := 0) (P := (· = .str "name")) hab (eg_pure (fun _ _ _ => ed_str) rfl) (ega_cons (k := 0) hab (eg_nxyz hab rfl) ega_nil)) ?_)) fun hc => ?_
    · have e1 := et_t (ed_eq (K := K) (b := b) (σ := [some (V.ref a), some (.ref h), some (.int ((n + 1 : Nat) : Int)), some (.int r), none, none, none]) (H := H2) (ed_var (i := 2) (d := .int ((n + 1 : Nat) : Int)) rfl (.int _)) (ed_int (i := 1)) (sh_int _) (sh_int _))
      have e2 := et_t (ed_lt (K := K) (b := b) (σ := [some (V.ref a), some (.ref h), some (.int ((n + 1 : Nat) : Int)), some (.int r), none, none, none]) (H := H2) (ed_var (i := 3) (d := .int r) rfl (.int r)) (ed_int (i := 6)))
      have e3 := et_or e1 (fun _ => e2)
      exact e3
    · rintro l ⟨d1, r1', rfl, rfl, d2, r2', rfl, ⟨x, hx, rfl⟩, rfl⟩
      exact ⟨by show 2 ≤ sizeLine; decide, .name hx⟩
    have hn : 0 < n := by
      cases n with
      | zero =>
        have : PyData.eqv (.int ((0 + 1 : Nat) : Int)) (.int 1) = true := by simp [PyData.eqv]
        rw [this] at hc
        cases hc
      | succ n => exact Nat.succ_pos n
    have sb : ∀ {b' : List Addr} {σ' : L2.St} (H' : Hp), σ'[2]? = some (some (.int ((n + 1 : Nat) : Int))) → ED K b' (tOp (rI0 fun i j => .int (i - j)) (tVar 2) (tC (.int 1))) σ' H' (.int (n : Nat)) := fun {_ _} H' h2 => (ed_sub (ed_var (i := 2) (d := .int ((n + 1 : Nat) : Int)) h2 (.int _)) (ed_int (i := 1))).to (by
      have : ((n + 1 : Nat) : Int) - 1 = (n : Nat) := by omega
      rw [this])
    refine gs_if (c := decide (r < 11)) (fun H2 x2 _ => et_t (ed_lt (K := K) (b := b) (ed_var (i := 3) (d := .int r) rfl (.int r)) ed_int)) (fun _ => ?_) fun _ => ?_
    · refine gs_set (k := 0) (P1 := fun d => ∃ o ∈ opsW, d = .str o) (eg_ixL (k := 0) hab (eg_pure (P := (· = .list (opsW.map .str))) (fun H2 x2 kn2 => ed_lst (ds := opsW.map .str) kn2 (ea_cons ed_str (ea_cons ed_str (ea_cons ed_str (ea_cons ed_str (ea_cons ed_str (ea_cons ed_str ea_nil)))))) (by decide)) rfl) (tk rfl (by decide) (by decide)) ?_) fun v4 d4 H4 x4 hv4 ⟨o, ho, eo⟩ => ?_
      · rintro d e rfl hi
        obtain ⟨j, z, rfl, hz, hm⟩ := intB_at (ds := opsW.map .str) hi (by decide)
        obtain ⟨o, ho, rfl⟩ := List.mem_map.mp hm
        exact ⟨_, j, _, rfl, rfl, hz, o, ho, rfl⟩
      · subst eo
        have hd4 := hd1.upB ne x4
        refine gs_ret (eg_tup (ega_cons (k := 0) (P := (· = .str o)) hab (eg_var (i := 4) rfl hab hv4 rfl) (ega_cons (k := 0) hab (eg_val (i := 0) (j := 1) hn hab rfl rfl hd4 ne C fun H' => sb H' rfl) (ega_cons (k := 0) hab (eg_val (i := 0) (j := 1) hn hab rfl rfl hd4 ne C fun H' => sb H' rfl) ega_nil))) ?_)
        rintro l ⟨d1, r1', rfl, rfl, d2, r2', rfl, p2, d3, r3', rfl, p3, rfl⟩
        exact ⟨by show 3 ≤ sizeLine; decide, .op ho p2 p3⟩
    · refine gs_set (k := 0) (P1 := fun d => ∃ p ∈ hs, d = .str p.1) (eg_ixL (k := 0) hab (eg_sortDk (i := 1) rfl hd1 ne C) (eg_takeE (u := (hs.length : Nat)) (P1 := (· = .int (hs.length : Nat))) hab rfl (eg_pure (fun H2 x2 kn2 => ed_lenDk (i := 1) rfl (hd1.upB ne x2)) rfl) ?_) ?_) fun v5 d5 H5 x5 hv5 ⟨p, hp, ep⟩ => ?_
      · rintro d rfl
        have h1 := C.l6
        have h2 : 0 < hs.length := List.length_pos_iff.mpr C.l0
        exact ⟨_, rfl, by omega, by omega, Int.le_refl _⟩
      · rintro d e ⟨ys, rfl, pm⟩ hi
        have ly : ys.length = hs.length := by rw [pm.length_eq, List.length_map]
        obtain ⟨j, z, rfl, hz, hm⟩ := intB_at (ds := ys.map .str) hi (by rw [List.length_map, ly]; exact Int.le_refl _)
        obtain ⟨o, ho, rfl⟩ := List.mem_map.mp hm
        obtain ⟨p, hp, rfl⟩ := List.mem_map.mp (pm.mem_iff.mp ho)
        exact ⟨_, j, _, rfl, rfl, hz, p, hp, rfl⟩
      · subst ep
        have ev5 := dq_str hv5
        subst ev5
        have hd5 := hd1.upB ne x5
        have lc := eg_lcR (K := K) (b := b) (a := a) (m := 0) (i0 := 6) (c := 0) (N := p.2) (R := fun _ d => ValP hs n d) (ta := tDGet (tVar 1) (tVar 5)) (te := tCall (spV K n) [] E0 (tCons (tVar 0) (tCons (tVar 1) (tCons (tOp (rI0 fun i j => .int (i - j)) (tVar 2) (tC (.int 1))) tNil)))) (σ := [some (V.ref a), some (.ref h), some (.int ((n + 1 : Nat) : Int)), some (.int r), none, some (.str p.1), none]) (H := H5) hab (fun H6 x6 kn6 => ed_dget (i := 1) (j := 5) rfl rfl (hd5.upB ne x6) C hp) (Nat.le_trans (C.le p hp) (by decide))
          (fun Dl i f H6 H7 hi x6 hDl x7 => eg_val (i := 0) (j := 1) hn (List.mem_cons_of_mem _ hab) rfl rfl ((hd5.upB ne x6).upB ne x7) ne C fun H' => sb H' rfl)
        have lc' := EG.any (n' := 0) (m' := 0) lc
        refine gs_ret (eg_tup (ega_cons (k := 0) (P := (· = .str "call")) hab (eg_pure (fun _ _ _ => ed_str) rfl) (ega_cons (k := 0) (P := (· = .str p.1)) hab (eg_var (i := 5) rfl hab hv5 rfl) (ega_cons (k := 0) (P := fun d => ∃ ds, d = .tuple ds ∧ ds.length = p.2 ∧ ∀ e ∈ ds, ValP hs n e) hab (eg_tupOf lc' ?_) ega_nil))) ?_)
        · rintro d ⟨ds, rfl, hl, hR⟩
          refine ⟨ds, rfl, ds, rfl, hl, fun e he => ?_⟩
          obtain ⟨i, hi, ei⟩ := List.mem_iff_getElem.mp he
          exact hR i e (by rw [List.getElem?_eq_getElem hi, ei])
        · rintro l ⟨d1, r1', rfl, rfl, d2, r2', rfl, rfl, d3, r3', rfl, ⟨ds, rfl, hl, hR⟩, rfl⟩
          exact ⟨by show 3 ≤ sizeLine; decide, .call (by rw [hl]; exact hp) hR⟩
end
end Wr

set_option Elab.async false
set_option linter.all false
set_option maxRecDepth 100000
set_option maxHeartbeats 4000000
namespace Wr
open PySem PySem.Spec PyProof.Rows L2 Evl
theorem ValP.up {hs : Hds} {n m : Nat} {d : PyData} (h : ValP hs n d) : n ≤ m → ValP hs m d := by
  induction h generalizing m with
  | num p =>
    intro hm
    obtain ⟨k, rfl⟩ : ∃ k, m = k + 1 := ⟨m - 1, by omega⟩
    exact .num p
  | name p =>
    intro hm
    obtain ⟨k, rfl⟩ : ∃ k, m = k + 1 := ⟨m - 1, by omega⟩
    exact .name p
  | op o _ _ i1 i2 =>
    intro hm
    obtain ⟨k, rfl⟩ : ∃ k, m = k + 1 := ⟨m - 1, by omega⟩
    exact .op o (i1 (by omega)) (i2 (by omega))
  | call p _ ih =>
    intro hm
    obtain ⟨k, rfl⟩ : ∃ k, m = k + 1 := ⟨m - 1, by omega⟩
    exact .call p fun d hd => ih d hd (by omega)
def oneW : List Str := ["say", "back", "throw"]
/-- sayings at most n deep, their values at most w -/
inductive SayP (hs : Hds) (w : Nat) : Nat → PyData → Prop
  | set {n : Nat} {x : Str} {v : PyData} : x ∈ nxyzW → ValP hs w v → SayP hs w (n + 1) (.tuple [.str "set", .str x, v])
  | one {n : Nat} {o : Str} {v : PyData} : o ∈ oneW → ValP hs w v → SayP hs w (n + 1) (.tuple [.str o, v])
  | ite {n : Nat} {v : PyData} {ss ts : List PyData} : ValP hs w v → ss.length ≤ 6 → (∀ s ∈ ss, SayP hs w n s) → ts.length ≤ 6 → (∀ s ∈ ts, SayP hs w n s) → SayP hs w (n + 1) (.tuple [.str "if", v, .tuple ss, .tuple ts])
  | whl {n : Nat} {v : PyData} {ss : List PyData} : ValP hs w v → ss.length ≤ 6 → (∀ s ∈ ss, SayP hs w n s) → SayP hs w (n + 1) (.tuple [.str "while", v, .tuple ss])
  | tr {n : Nat} {x : Str} {ss ts : List PyData} : x ∈ nxyzW → ss.length ≤ 6 → (∀ s ∈ ss, SayP hs w n s) → ts.length ≤ 6 → (∀ s ∈ ts, SayP hs w n s) → SayP hs w (n + 1) (.tuple [.str "try", .tuple ss, .str x, .tuple ts])
def SayQ (hs : Hds) (l n : Nat) (d : PyData) : Prop := SayP hs (max l 2) n d
def SaysQ (hs : Hds) (l n : Nat) (d : PyData) : Prop := ∃ ss, d = .tuple ss ∧ ss.length ≤ 6 ∧ ∀ s ∈ ss, SayP hs (max l 2) n s
/-- a saying, sayings are drawn -/
def spS (K : PySem.W.Frag) (Po : Hds → Nat → Nat → PyData → Prop) (n : Nat) : Sp := fun vs H Q _ => 0 < n ∧ ∃ (b : List Addr) (a h : Addr) (hs : Hds) (l : Nat), vs = [.ref a, .ref h, .int (n : Nat), .int (l : Nat)] ∧ 0 < l ∧ l ≤ 6 ∧ a ∈ b ∧ Kn b H ∧ Bag a 0 H ∧ HdAt H h hs ∧ HdC hs ∧
  ∀ v d H', ExB a H H' → Bag a 0 H' → Dq K b H' v d → Po hs l n d → Q v H'
abbrev s_saying : Stmt := topS 30
abbrev s_sayings : Stmt := topS 31
abbrev PSa : List Str := ["_law_bag_here", "_law_heads", "_law_deep", "_law_wide"]
abbrev NSa : List Str := ["_law_bag_here", "_law_heads", "_law_deep", "_law_wide", "_law_way", "_law_some", "_law_name", "_law_inner"]
abbrev NSs : List Str := ["_law_bag_here", "_law_heads", "_law_deep", "_law_wide", "_law_many", "_law_k"]
theorem sc_saying : FnScope NSa PSa (defScope s_saying) := ⟨rfl, rfl, rfl, by decide +kernel, rfl, by decide +kernel, by decide +kernel⟩
theorem sc_sayings : FnScope NSs PSa (defScope s_sayings) := ⟨rfl, rfl, rfl, by decide +kernel, rfl, by decide +kernel, by decide +kernel⟩
section
variable {K : PySem.W.Frag} {b : List Addr} {a h : Addr} {n m k : Nat} {σ : L2.St} {H H' : Hp} {ta tb te : TE} {t : TA} {tt : TT} {ts t1 t2 : TS} {P P' : PyData → Prop} {d : PyData} {hs : Hds}
theorem eg_say {E : XK} {Po : Hds → Nat → Nat → PyData → Prop} {i j i3 c l : Nat} (hc : 0 < c) (hl : 0 < l) (hl6 : l ≤ 6) (ha : a ∈ b) (hb : σ[i]? = some (some (.ref a))) (hh : σ[j]? = some (some (.ref h))) (h3 : σ[i3]? = some (some (.int (l : Nat)))) (hd : HdAt H h hs) (ne : h ≠ a) (C : HdC hs) (he : ∀ H1, ED K b te σ H1 (.int (c : Nat))) :
    EG K b a n m (tCall (spS K Po c) [] E (tCons (tVar i) (tCons (tVar j) (tCons te (tCons (tVar i3) tNil))))) σ H (Po hs l c) := fun H1 x1 kn bg Q q =>
  ⟨.ref a, hb, .ref h, hh, he H1 H1 (Ex.refl H1) _ fun v H2 x2 hv => by
    have e := dq_int hv
    subst e
    exact ⟨.int (l : Nat), h3, hc, b, a, h, hs, l, rfl, hl, hl6, ha, kn.up x2, bg.ex x2, (hd.upB ne x1).up x2, C, fun v d H3 x3 b3 hv p => q v d H3 ((exb x2).trans x3) b3 hv p⟩⟩
theorem cut5 (ys : List PyData) : cutD ys none (some 5) = ys.take 5 := by
  unfold cutD
  rw [HT.sIx_none]
  have e2 : HT.sIx ys.length ys.length (some (5 : Int)) = min 5 ys.length := HT.sIx_nat ys.length ys.length 5
  rw [e2, List.drop_zero, Nat.sub_zero]
  by_cases h5 : 5 ≤ ys.length
  · rw [Nat.min_eq_left h5]
  · rw [Nat.min_eq_right (by omega), List.take_of_length_le (Nat.le_refl _), List.take_of_length_le (by omega)]
end
section
variable {P : Program} {w : World} {K : PySem.W.Frag} {mg : Str → Option Value} {base : Heap} {f f2 g g2 g3 : Addr} {fd fd2 gd gd2 gd3 : FuncData}
theorem ok_sayings1 {n : Nat} (D : Def K mg "_law_sayings" s_sayings PSa f fd) (D1 : Def K mg "_law_take" s_take ["_law_bag_here", "_law_many"] g gd) (D2 : Def K mg "_law_saying" s_saying PSa f2 fd2) (IH : FnOk P w K mg base CX0 (2 * n + 7) f2 fd2 PSa (spS K SayQ n)) (B : Blt mg) : FnOk P w K mg base CX0 (2 * n + 8) f fd PSa (spS K SaysQ n) := by
  refine D.F.ok sc_sayings (fun vs H Q E ⟨_, b, a, h, hs, l, e, _⟩ => by rw [e]; rfl) (fun cdv A outer s H vs Q E hr h => ?_)
  obtain ⟨hn, b, a, h, hs, l, rfl, hl, hl6, hab, kn, bg, hd, C, q⟩ := h
  have ne := hd.ne bg
  have G1 := ok_take (P := P) (w := w) (base := base) D1
  have r1 : Room 1 _ := hr.mono (by omega)
  refine ⟨_, pss_cons (ps_set (i := 4) sc_sayings.nd rfl (Or.inl rfl) (pe_cd D1 G1 r1 (pa_cons (pv 0) (pa_cons (pe_ix ix_list (pe_lst (pa_cons pe_int (pa_cons pe_int (pa_cons pe_int (pa_cons pe_int (pa_cons pe_int (pa_cons pe_int (pa_cons pe_int (pa_cons pe_int pa_nil))))))))) (pe_cd D1 G1 r1 (pa_cons (pv 0) (pa_cons pe_int pa_nil))) (fun _ _ => rfl)) pa_nil))))
    (pss_one (ps_ret (pe_callTy call_tupF rfl B.tuple bt_tuple (pa_cons (pe_lc (own := [("_law_k", 5)]) (g := gName 5) (tt := tYes) rfl sc_sayings.nd (pi_range1 rfl B.range (pa_cons (pv 4) pa_nil)) (blkOk_by (N := NSs) (sc := defScope s_sayings) (by decide +kernel)) (fun _ _ _ _ _ => pg_name (i := 5) sc_sayings.nd rfl (Or.inl rfl)) (fun _ _ _ _ _ => pts_nil)
      (fun _ _ _ _ _ => pe_cd D2 IH hr (pa_cons (pv 0) (pa_cons (pv 1) (pa_cons (pv 2) (pa_cons (pv 3) pa_nil)))))) pa_nil)))), ?_⟩
  have tk : ∀ {σ' : L2.St} {H'' : Hp} {u : Int}, σ'[0]? = some (some (.ref a)) → 0 < u → u < 1073741824 → EG K b a 0 0 (tCall (spTake K) [] E0 (tCons (tVar 0) (tCons (tC (.int u)) tNil))) σ' H'' (IntB u) := fun {_ _ _} h1 h2 h3 => eg_take hab h1 h2 h3
  refine GS.fin (n := 0) (m := 0) (P := SaysQ hs l n) (gs_set (k := 0) (P1 := IntB 7) (eg_takeE (u := 7) (P1 := fun d => ∃ j, d = .int j ∧ 0 < j ∧ j ≤ 7) hab rfl (eg_ixL (k := 0) hab (eg_pure (P := (· = .list [.int 4, .int 4, .int 4, .int 3, .int 3, .int 3, .int 3, .int 7])) (fun H2 x2 kn2 => ed_lst kn2 (ea_cons ed_int (ea_cons ed_int (ea_cons ed_int (ea_cons ed_int (ea_cons ed_int (ea_cons ed_int (ea_cons ed_int (ea_cons ed_int ea_nil)))))))) (by decide)) rfl) (tk rfl (by decide) (by decide)) ?_) ?_) fun v d H1 x1 hv ⟨r, er, r0, r1⟩ => ?_) kn bg q
  · rintro d e rfl hi
    obtain ⟨j, z, rfl, hz, hm⟩ := intB_at (ds := [.int 4, .int 4, .int 4, .int 3, .int 3, .int 3, .int 3, .int 7]) hi (by decide)
    refine ⟨_, j, z, rfl, rfl, hz, ?_⟩
    simp only [List.mem_cons, List.not_mem_nil, or_false] at hm
    rcases hm with rfl | rfl | rfl | rfl | rfl | rfl | rfl | rfl
    all_goals exact ⟨_, rfl, by decide, by decide⟩
  · rintro d ⟨j, rfl, j0, j1⟩
    exact ⟨j, rfl, j0, by omega, j1⟩
  subst er
  have ev := dq_int hv
  subst ev
  have hd1 := hd.upB ne x1
  obtain ⟨N, rfl⟩ : ∃ N : Nat, r = (N : Nat) := ⟨r.toNat, (Int.toNat_of_nonneg r0).symm⟩
  have lc := eg_lcR (K := K) (b := b) (a := a) (m := 0) (i0 := 5) (c := 0) (N := N) (R := fun _ d => SayQ hs l n d) (ta := tVar 4) (te := tCall (spS K SayQ n) [] E0 (tCons (tVar 0) (tCons (tVar 1) (tCons (tVar 2) (tCons (tVar 3) tNil))))) (σ := [some (V.ref a), some (.ref h), some (.int (n : Nat)), some (.int (l : Nat)), some (.int (N : Nat)), none]) (H := H1) hab (fun H6 x6 kn6 => ed_var (i := 4) rfl (.int _)) (by omega)
    (fun Dl i f H6 H7 hi x6 hDl x7 => eg_say (i := 0) (j := 1) (i3 := 3) hn hl hl6 (List.mem_cons_of_mem _ hab) rfl rfl rfl ((hd1.upB ne x6).upB ne x7) ne C fun H' => ed_var (i := 2) rfl (.int _))
  have lc' := EG.any (n' := 0) (m' := 0) lc
  refine gs_ret (eg_tupOf lc' ?_)
  rintro d ⟨ds, rfl, hlen, hR⟩
  refine ⟨ds, rfl, ds, rfl, by omega, fun e he => ?_⟩
  obtain ⟨i, hi, ei⟩ := List.mem_iff_getElem.mp he
  exact hR i e (by rw [List.getElem?_eq_getElem hi, ei])
theorem ok_saying1 {n : Nat} (D : Def K mg "_law_saying" s_saying PSa f fd) (D1 : Def K mg "_law_take" s_take ["_law_bag_here", "_law_many"] g gd) (D2 : Def K mg "_law_sayings" s_sayings PSa f2 fd2) (IH : FnOk P w K mg base CX0 (2 * n + 8) f2 fd2 PSa (spS K SaysQ n)) (D3 : Def K mg "_law_value" s_value PVa g3 gd3) (D4 : Def K mg "_law_worth" s_worthT ["_law_bag_here"] g2 gd2) (B : Blt mg) (hso : mg "sorted" = none) :
    FnOk P w K mg base CX0 (2 * (n + 1) + 7) f fd PSa (spS K SayQ (n + 1)) := by
  refine D.F.ok sc_saying (fun vs H Q E ⟨_, b, a, h, hs, l, e, _⟩ => by rw [e]; rfl) (fun cdv A outer s H vs Q E hr h => ?_)
  obtain ⟨_, b, a, h, hs, l, rfl, hl, hl6, hab, kn, bg, hd, C, q⟩ := h
  have ne := hd.ne bg
  have G1 := ok_take (P := P) (w := w) (base := base) D1
  have G3 := ok_value (P := P) (w := w) (base := base) D3 D1 D4 B hso l
  have r1 : Room 1 _ := hr.mono (by omega)
  have rl : Room (l + 2) _ := hr.mono (by omega)
  have r8 : Room (2 * n + 8) _ := hr.mono (by omega)
  refine ⟨_, pss_cons (ps_set (i := 4) sc_saying.nd rfl (Or.inl rfl) (pe_cd D1 G1 r1 (pa_cons (pv 0) (pa_cons pe_int pa_nil))))
    (pss_cons (ps_set (i := 5) sc_saying.nd rfl (Or.inl rfl) (pe_cd D3 G3 rl (pa_cons (pv 0) (pa_cons (pv 1) (pa_cons (pv 3) pa_nil)))))
    (pss_cons (ps_set (i := 6) sc_saying.nd rfl (Or.inl rfl) (pe_ix ix_str pe_str (pe_cd D1 G1 r1 (pa_cons (pv 0) (pa_cons pe_int pa_nil))) (fun _ _ => rfl)))
    (pss_cons (ps_if (pt_cmpR op_lt (pv 4) pe_int (nomark _)) (pss_one (ps_ret (pe_tupF (pa_cons pe_str (pa_cons (pv 6) (pa_cons (pv 5) pa_nil)))))) pss_nil)
    (pss_cons (ps_if (PW.pt (pw_or (pt_cmpR op_lt (pv 4) pe_int (nomark _)) (pw_or1 (PW.pt (pw_and (pt_cmpR (op_eqD (hu64 hr)) (pv 2) pe_int (nomark _)) (pw_and1 (pt_cmpR op_gt (pv 4) pe_int (nomark _)))))))) (pss_one (ps_ret (pe_tupF (pa_cons pe_str (pa_cons (pv 5) pa_nil))))) pss_nil)
    (pss_cons (ps_if (pt_cmpR op_lt (pv 4) pe_int (nomark _)) (pss_one (ps_ret (pe_tupF (pa_cons (pe_ix ix_list (pe_lst (pa_cons pe_str (pa_cons pe_str pa_nil))) (pe_op op_sub (pv 4) pe_int) (fun _ _ => rfl)) (pa_cons (pv 5) pa_nil))))) pss_nil)
    (pss_cons (ps_if (pt_cmpR op_lt (pv 4) pe_int (nomark _)) (pss_one (ps_ret (pe_tupF (pa_cons pe_str (pa_cons (pv 5) (pa_cons (pe_cd D2 IH r8 (pa_cons (pv 0) (pa_cons (pv 1) (pa_cons (pe_op op_sub (pv 2) pe_int) (pa_cons (pv 3) pa_nil))))) (pa_cons (pe_cd D2 IH r8 (pa_cons (pv 0) (pa_cons (pv 1) (pa_cons (pe_op op_sub (pv 2) pe_int) (pa_cons (pv 3) pa_nil))))) pa_nil))))))) pss_nil)
    (pss_cons (ps_if (pt_cmpR (op_eqD (hu64 hr)) (pv 4) pe_int (nomark _)) (pss_one (ps_ret (pe_tupF (pa_cons pe_str (pa_cons (pv 5) (pa_cons (pe_cd D2 IH r8 (pa_cons (pv 0) (pa_cons (pv 1) (pa_cons (pe_op op_sub (pv 2) pe_int) (pa_cons (pv 3) pa_nil))))) pa_nil)))))) pss_nil)
    (pss_cons (ps_set (i := 7) sc_saying.nd rfl (Or.inl rfl) (pe_cd D2 IH r8 (pa_cons (pv 0) (pa_cons (pv 1) (pa_cons (pe_op op_sub (pv 2) pe_int) (pa_cons (pv 3) pa_nil))))))
    (pss_cons (ps_if (pt_cmpR op_lt (pv 4) pe_int (nomark _)) (pss_one (ps_ret (pe_tupF (pa_cons pe_str (pa_cons (pe_tupF (pa_cons pe_str (pa_cons (pv 6) pa_nil))) (pa_cons (pe_op op_catF (pe_slice sl_tupF (pv 7) po_none (po_some pe_int)) (pe_tupF (pa_cons (pe_tupF (pa_cons pe_str (pa_cons (pv 6) (pa_cons (pe_tupF (pa_cons pe_str (pa_cons (pe_tupF (pa_cons pe_str (pa_cons (pv 6) pa_nil))) (pa_cons pe_int pa_nil)))) pa_nil)))) pa_nil))) pa_nil)))))) pss_nil)
    (pss_one (ps_ret (pe_tupF (pa_cons pe_str (pa_cons (pv 7) (pa_cons (pv 6) (pa_cons (pe_cd D2 IH r8 (pa_cons (pv 0) (pa_cons (pv 1) (pa_cons (pe_op op_sub (pv 2) pe_int) (pa_cons (pv 3) pa_nil))))) pa_nil)))))))))))))))), ?_⟩
  have tk : ∀ {σ' : L2.St} {H'' : Hp} {u : Int}, σ'[0]? = some (some (.ref a)) → 0 < u → u < 1073741824 → EG K b a 0 0 (tCall (spTake K) [] E0 (tCons (tVar 0) (tCons (tC (.int u)) tNil))) σ' H'' (IntB u) := fun {_ _ _} h1 h2 h3 => eg_take hab h1 h2 h3
  refine GS.fin (n := 0) (m := 0) (P := SayQ hs l (n + 1)) (gs_set (k := 0) (tk rfl (by decide) (by decide)) fun v d H1 x1 hv ⟨r, er, r0, r1⟩ => ?_) kn bg q
  subst er
  have ev := dq_int hv
  subst ev
  have hd1 := hd.upB ne x1
  refine gs_set (k := 0) (P1 := ValP hs l) (eg_val (i := 0) (j := 1) hl hab rfl rfl hd1 ne C fun H' => ed_var (i := 3) rfl (.int _)) fun v5 d5 H5 x5 hv5 p5 => ?_
  have p5 : ValP hs (max l 2) d5 := p5.up (Nat.le_max_left l 2)
  refine gs_set (k := 0) (eg_nxyz hab rfl) fun v6 d6 H6 x6 hv6 ⟨x, hx, ex⟩ => ?_
  subst ex
  have ev6 := dq_str hv6
  subst ev6
  have hd6 := (hd1.upB ne x5).upB ne x6
  have hv5 := Dq.upB hab hv5 x6
  refine gs_if (c := decide (r < 4)) (fun H2 x2 _ => et_t (ed_lt (K := K) (b := b) (ed_var (i := 4) (d := .int r) rfl (.int r)) ed_int)) (fun _ => gs_ret (eg_tup (ega_cons (k := 0) (P := (· = .str "set")) hab (eg_pure (fun _ _ _ => ed_str) rfl) (ega_cons (k := 0) (P := (· = .str x)) hab (eg_var (i := 6) rfl hab hv6 rfl) (ega_cons (k := 0) (P := (· = d5)) hab (eg_var (i := 5) rfl hab hv5 rfl) ega_nil))) ?_)) fun _ => ?_
  · rintro lst ⟨d1, r1', rfl, rfl, d2, r2', rfl, rfl, d3, r3', rfl, rfl, rfl⟩
    exact ⟨by show 3 ≤ sizeLine; decide, .set hx p5⟩
  refine gs_if (c := decide (r < 7) || (PyData.eqv (.int ((n + 1 : Nat) : Int)) (.int 1) && decide (8 < r))) (fun H2 x2 _ => ?_) (fun _ => gs_ret (eg_tup (ega_cons (k := 0) (P := (· = .str "say")) hab (eg_pure (fun _ _ _ => ed_str) rfl) (ega_cons (k := 0) (P := (· = d5)) hab (eg_var (i := 5) rfl hab hv5 rfl) ega_nil)) ?_)) fun hc => ?_
  · have e1 := et_t (ed_lt (K := K) (b := b) (σ := [some (V.ref a), some (.ref h), some (.int ((n + 1 : Nat) : Int)), some (.int (l : Nat)), some (.int r), some v5, some (.str x), none]) (H := H2) (ed_var (i := 4) (d := .int r) rfl (.int r)) (ed_int (i := 7)))
    have e2 := et_t (ed_eq (K := K) (b := b) (σ := [some (V.ref a), some (.ref h), some (.int ((n + 1 : Nat) : Int)), some (.int (l : Nat)), some (.int r), some v5, some (.str x), none]) (H := H2) (ed_var (i := 2) (d := .int ((n + 1 : Nat) : Int)) rfl (.int _)) (ed_int (i := 1)) (sh_int _) (sh_int _))
    have e3 := et_t (ed_gt (K := K) (b := b) (σ := [some (V.ref a), some (.ref h), some (.int ((n + 1 : Nat) : Int)), some (.int (l : Nat)), some (.int r), some v5, some (.str x), none]) (H := H2) (ed_var (i := 4) (d := .int r) rfl (.int r)) (ed_int (i := 8)))
    have e4 := et_and e2 (fun _ => e3)
    have e5 := et_or e1 (fun _ => e4)
    exact e5
  · rintro lst ⟨d1, r1', rfl, rfl, d2, r2', rfl, rfl, rfl⟩
    exact ⟨by show 2 ≤ sizeLine; decide, .one (by decide +kernel) p5⟩
  obtain ⟨hc7, hc8⟩ := Bool.or_eq_false_iff.mp hc
  have r7 : 7 ≤ r := by
    have := of_decide_eq_false hc7
    omega
  refine gs_if (c := decide (r < 9)) (fun H2 x2 _ => et_t (ed_lt (K := K) (b := b) (ed_var (i := 4) (d := .int r) rfl (.int r)) ed_int)) (fun h9 => ?_) fun h9 => ?_
  · have r9 := of_decide_eq_true h9
    refine gs_ret (eg_tup (ega_cons (k := 0) (P := fun d => d = .str "back" ∨ d = .str "throw") hab (eg_ixL (k := 0) (P1 := (· = .list [.str "back", .str "throw"])) (P2 := (· = .int (r - 7))) hab (eg_pure (fun H2 x2 kn2 => ed_lst kn2 (ea_cons ed_str (ea_cons ed_str ea_nil)) (by decide)) rfl) (eg_pure (fun H2 x2 kn2 => ed_sub (ed_var (i := 4) (d := .int r) rfl (.int r)) ed_int) rfl) ?_) (ega_cons (k := 0) (P := (· = d5)) hab (eg_var (i := 5) rfl hab hv5 rfl) ega_nil)) ?_)
    · rintro d e rfl rfl
      rcases (show r = 7 ∨ r = 8 by omega) with rfl | rfl
      · exact ⟨_, _, .str "back", rfl, rfl, rfl, .inl rfl⟩
      · exact ⟨_, _, .str "throw", rfl, rfl, rfl, .inr rfl⟩
    · rintro lst ⟨d1, r1', rfl, h1, d2, r2', rfl, rfl, rfl⟩
      refine ⟨by show 2 ≤ sizeLine; decide, ?_⟩
      rcases h1 with rfl | rfl
      · exact .one (by decide +kernel) p5
      · exact .one (by decide +kernel) p5
  have r9 : 9 ≤ r := by
    have := of_decide_eq_false h9
    omega
  have hn : 0 < n := by
    cases n with
    | zero =>
      have e1 : PyData.eqv (.int ((0 + 1 : Nat) : Int)) (.int 1) = true := by simp [PyData.eqv]
      rw [e1, decide_eq_true (show 8 < r by omega)] at hc8
      cases hc8
    | succ n => exact Nat.succ_pos n
  have sb : ∀ {b' : List Addr} {σ' : L2.St} (H' : Hp), σ'[2]? = some (some (.int ((n + 1 : Nat) : Int))) → ED K b' (tOp (rI0 fun i j => .int (i - j)) (tVar 2) (tC (.int 1))) σ' H' (.int (n : Nat)) := fun {_ _} H' h2 => (ed_sub (ed_var (i := 2) (d := .int ((n + 1 : Nat) : Int)) h2 (.int _)) (ed_int (i := 1))).to (by
    have : ((n + 1 : Nat) : Int) - 1 = (n : Nat) := by omega
    rw [this])
  refine gs_if (c := decide (r < 11)) (fun H2 x2 _ => et_t (ed_lt (K := K) (b := b) (ed_var (i := 4) (d := .int r) rfl (.int r)) ed_int)) (fun _ => ?_) fun _ => ?_
  · refine gs_ret (eg_tup (ega_cons (k := 0) (P := (· = .str "if")) hab (eg_pure (fun _ _ _ => ed_str) rfl) (ega_cons (k := 0) (P := (· = d5)) hab (eg_var (i := 5) rfl hab hv5 rfl) (ega_cons (k := 0) hab (eg_say (Po := SaysQ) (i := 0) (j := 1) (i3 := 3) hn hl hl6 hab rfl rfl rfl hd6 ne C fun H' => sb H' rfl) (ega_cons (k := 0) hab (eg_say (Po := SaysQ) (i := 0) (j := 1) (i3 := 3) hn hl hl6 hab rfl rfl rfl hd6 ne C fun H' => sb H' rfl) ega_nil)))) ?_)
    rintro lst ⟨d1, r1', rfl, rfl, d2, r2', rfl, rfl, d3, r3', rfl, ⟨ss, rfl, l1, q1⟩, d4, r4', rfl, ⟨ts, rfl, l2, q2⟩, rfl⟩
    exact ⟨by show 4 ≤ sizeLine; decide, .ite p5 l1 q1 l2 q2⟩
  refine gs_if (c := PyData.eqv (.int r) (.int 11)) (fun H2 x2 _ => et_t (ed_eq (K := K) (b := b) (ed_var (i := 4) (d := .int r) rfl (.int r)) ed_int (sh_int _) (sh_int _))) (fun _ => ?_) fun _ => ?_
  · refine gs_ret (eg_tup (ega_cons (k := 0) (P := (· = .str "while")) hab (eg_pure (fun _ _ _ => ed_str) rfl) (ega_cons (k := 0) (P := (· = d5)) hab (eg_var (i := 5) rfl hab hv5 rfl) (ega_cons (k := 0) hab (eg_say (Po := SaysQ) (i := 0) (j := 1) (i3 := 3) hn hl hl6 hab rfl rfl rfl hd6 ne C fun H' => sb H' rfl) ega_nil))) ?_)
    rintro lst ⟨d1, r1', rfl, rfl, d2, r2', rfl, rfl, d3, r3', rfl, ⟨ss, rfl, l1, q1⟩, rfl⟩
    exact ⟨by show 3 ≤ sizeLine; decide, .whl p5 l1 q1⟩
  refine gs_set (k := 0) (P1 := SaysQ hs l n) (eg_say (Po := SaysQ) (i := 0) (j := 1) (i3 := 3) hn hl hl6 hab rfl rfl rfl hd6 ne C fun H' => sb H' rfl) fun v7 d7 H7 x7 hv7 ⟨ss, es, l1, q1⟩ => ?_
  subst es
  have hv6 := Dq.upB hab hv6 x7
  have hd7 := hd6.upB ne x7
  refine gs_if (c := decide (r < 14)) (fun H2 x2 _ => et_t (ed_lt (K := K) (b := b) (ed_var (i := 4) (d := .int r) rfl (.int r)) ed_int)) (fun _ => ?_) fun _ => ?_
  · refine gs_ret (eg_tup (ega_cons (k := 0) (P := (· = .str "while")) hab (eg_pure (fun _ _ _ => ed_str) rfl) (ega_cons (k := 0) (P := (· = .tuple [.str "name", .str x])) hab (eg_pure (fun H2 x2 kn2 => ed_tup kn2 (ea_cons ed_str (ea_cons (ed_var (i := 6) rfl (Dq.upB hab hv6 x2)) ea_nil)) (by show 2 ≤ sizeLine; decide)) rfl)
      (ega_cons (k := 0) (P := (· = .tuple (ss.take 5 ++ [.tuple [.str "set", .str x, .tuple [.str "less", .tuple [.str "name", .str x], .int 1]]]))) hab (eg_pure (fun H2 x2 kn2 => ?_) rfl) ega_nil))) ?_)
    · have sl := ed_slT kn2 (ed_var (σ := [some (V.ref a), some (.ref h), some (.int ((n + 1 : Nat) : Int)), some (.int (l : Nat)), some (.int r), some v5, some (.str x), some v7]) (i := 7) rfl (Dq.upB hab hv7 x2)) eo_none (eo_some (K := K) (b := b) (ed_int (i := 5)))
      rw [cut5] at sl
      have nx := ed_tup kn2 (ea_cons (ed_str (x := "name")) (ea_cons (ed_var (σ := [some (V.ref a), some (.ref h), some (.int ((n + 1 : Nat) : Int)), some (.int (l : Nat)), some (.int r), some v5, some (.str x), some v7]) (i := 6) rfl (Dq.upB hab hv6 x2)) ea_nil)) (by show 2 ≤ sizeLine; decide)
      have ls := ed_tup kn2 (ea_cons (ed_str (x := "less")) (ea_cons nx (ea_cons (ed_int (i := 1)) ea_nil))) (by show 3 ≤ sizeLine; decide)
      have st := ed_tup kn2 (ea_cons (ed_str (x := "set")) (ea_cons (ed_var (σ := [some (V.ref a), some (.ref h), some (.int ((n + 1 : Nat) : Int)), some (.int (l : Nat)), some (.int r), some v5, some (.str x), some v7]) (i := 6) rfl (Dq.upB hab hv6 x2)) (ea_cons ls ea_nil))) (by show 3 ≤ sizeLine; decide)
      have one := ed_tup kn2 (ea_cons st ea_nil) (by show 1 ≤ sizeLine; decide)
      exact ed_catT kn2 sl one (by rw [List.length_take, sizeLine_eq]; show min 5 ss.length + 1 ≤ 16777216; omega)
    · rintro lst ⟨d1, r1', rfl, rfl, d2, r2', rfl, rfl, d3, r3', rfl, rfl, rfl⟩
      refine ⟨by show 3 ≤ sizeLine; decide, ?_⟩
      obtain ⟨w0, hw0⟩ : ∃ w0, max l 2 = w0 + 2 := ⟨max l 2 - 2, by omega⟩
      unfold SayQ
      refine .whl (by rw [hw0]; exact .name hx) ?_ fun s' hs' => ?_
      · rw [List.length_append, List.length_take]
        show min 5 ss.length + 1 ≤ 6
        omega
      · rcases List.mem_append.mp hs' with m | m
        · exact q1 s' (List.mem_of_mem_take m)
        · rw [List.mem_singleton.mp m]
          obtain ⟨k, rfl⟩ : ∃ k, n = k + 1 := ⟨n - 1, by omega⟩
          refine .set hx ?_
          rw [hw0]
          exact .op (by decide +kernel) (.name hx) (.num rfl)
  · refine gs_ret (eg_tup (ega_cons (k := 0) (P := (· = .str "try")) hab (eg_pure (fun _ _ _ => ed_str) rfl) (ega_cons (k := 0) (P := (· = .tuple ss)) hab (eg_var (i := 7) rfl hab hv7 rfl) (ega_cons (k := 0) (P := (· = .str x)) hab (eg_var (i := 6) rfl hab hv6 rfl) (ega_cons (k := 0) hab (eg_say (Po := SaysQ) (i := 0) (j := 1) (i3 := 3) hn hl hl6 hab rfl rfl rfl hd7 ne C fun H' => sb H' rfl) ega_nil)))) ?_)
    rintro lst ⟨d1, r1', rfl, rfl, d2, r2', rfl, rfl, d3, r3', rfl, rfl, d4, r4', rfl, ⟨ts, rfl, l2, q2⟩, rfl⟩
    exact ⟨by show 4 ≤ sizeLine; decide, .tr hx l1 q1 l2 q2⟩
theorem ok_both (Dy : Def K mg "_law_saying" s_saying PSa f fd) (D1 : Def K mg "_law_take" s_take ["_law_bag_here", "_law_many"] g gd) (Ds : Def K mg "_law_sayings" s_sayings PSa f2 fd2) (D3 : Def K mg "_law_value" s_value PVa g3 gd3) (D4 : Def K mg "_law_worth" s_worthT ["_law_bag_here"] g2 gd2) (B : Blt mg) (hso : mg "sorted" = none) :
    ∀ n, FnOk P w K mg base CX0 (2 * n + 7) f fd PSa (spS K SayQ n) ∧ FnOk P w K mg base CX0 (2 * n + 8) f2 fd2 PSa (spS K SaysQ n)
  | 0 => ⟨⟨fun _ _ _ _ h => absurd h.1 (by decide), fun _ _ _ _ _ _ _ _ _ _ _ _ _ h => absurd h.1 (by decide)⟩, ⟨fun _ _ _ _ h => absurd h.1 (by decide), fun _ _ _ _ _ _ _ _ _ _ _ _ _ h => absurd h.1 (by decide)⟩⟩
  | n + 1 => by
    have IH := ok_both Dy D1 Ds D3 D4 B hso n
    have a := ok_saying1 Dy D1 Ds IH.2 D3 D4 B hso
    exact ⟨a, ok_sayings1 Ds D1 Dy a B⟩
end
end Wr

set_option Elab.async false
set_option linter.all false
set_option maxRecDepth 100000
set_option maxHeartbeats 4000000
namespace Wr
open PySem PySem.Spec PyProof.Rows L2 Evl
/-! ### how deep and wide they are as data -/
theorem word_ok {x : Str} {ws : List Str} (h : x ∈ ws) (hw : (ws.all fun x => PyData.strOk x && decide (x.length ≤ 8)) = true) : PyData.strOk x = true ∧ x.length ≤ 8 := by
  have := List.all_eq_true.mp hw x h
  rw [Bool.and_eq_true] at this
  exact ⟨this.1, of_decide_eq_true this.2⟩
theorem nxyz_ok {x : Str} (h : x ∈ nxyzW) : PyData.strOk x = true ∧ x.length ≤ 8 := word_ok h (by decide +kernel)
theorem ops_ok {x : Str} (h : x ∈ opsW) : PyData.strOk x = true ∧ x.length ≤ 8 := word_ok h (by decide +kernel)
theorem one_ok {x : Str} (h : x ∈ oneW) : PyData.strOk x = true ∧ x.length ≤ 8 := word_ok h (by decide +kernel)
theorem okL_w {L n : Nat} {x : Str} (h : PyData.strOk x = true ∧ x.length ≤ 8) : okL L n (.str x) = true := okL_str h.1 (by omega)
theorem okL_c {L n : Nat} {x : Str} (h : (PyData.strOk x && decide (x.length ≤ 8)) = true) : okL L n (.str x) = true := by
  rw [Bool.and_eq_true] at h
  exact okL_w ⟨h.1, of_decide_eq_true h.2⟩
theorem mem3 {P : PyData → Prop} {c d e : PyData} (h1 : P c) (h2 : P d) (h3 : P e) : ∀ x ∈ [c, d, e], P x := fun x hx => by
  rcases List.mem_cons.mp hx with rfl | hx
  · exact h1
  rcases List.mem_cons.mp hx with rfl | hx
  · exact h2
  rw [List.mem_singleton.mp hx]
  exact h3
theorem mem2 {P : PyData → Prop} {c d : PyData} (h1 : P c) (h2 : P d) : ∀ x ∈ [c, d], P x := fun x hx => by
  rcases List.mem_cons.mp hx with rfl | hx
  · exact h1
  rw [List.mem_singleton.mp hx]
  exact h2
theorem mem4 {P : PyData → Prop} {c d e f : PyData} (h1 : P c) (h2 : P d) (h3 : P e) (h4 : P f) : ∀ x ∈ [c, d, e, f], P x := fun x hx => by
  rcases List.mem_cons.mp hx with rfl | hx
  · exact h1
  exact mem3 h2 h3 h4 x hx
theorem ValP.ok {hs : Hds} (C : HdC hs) {n : Nat} {d : PyData} (h : ValP hs n d) : okL 6 (2 * n) d = true := by
  induction h with
  | @num n d p =>
    unfold worthD at p
    split at p
    · rename_i i
      rw [Bool.and_eq_true] at p
      have h1 := of_decide_eq_true p.1
      have h2 := of_decide_eq_true p.2
      exact okL_int (Nat.lt_of_le_of_lt (show i.natAbs ≤ 1000000000000 by omega) (by decide))
    · cases p
  | @name n x p => exact okL_tup (by show 2 ≤ 6; decide) (mem2 (okL_c (by decide +kernel)) (okL_w (nxyz_ok p)))
  | @op n o c d p _ _ i1 i2 => exact okL_tup (n := 2 * n + 1) (by show 3 ≤ 6; decide) (mem3 (okL_w (ops_ok p)) (okL_up (Nat.le_refl _) _ _ _ (by omega) i1) (okL_up (Nat.le_refl _) _ _ _ (by omega) i2))
  | @call n x ds p _ ih =>
    refine okL_tup (n := 2 * n + 1) (by show 3 ≤ 6; decide) (mem3 (okL_c (by decide +kernel)) (okL_w ⟨(C.nm _ p).2, name_len (C.nm _ p).1⟩) (okL_tup ?_ ih))
    have := C.le _ p
    show ds.length ≤ 6
    have h' : ds.length ≤ 3 := this
    omega
theorem SayP.ok {hs : Hds} (C : HdC hs) {w n : Nat} {d : PyData} (h : SayP hs w n d) : okL 6 (2 * w + 2 * n) d = true := by
  have v : ∀ {d : PyData} {m : Nat}, ValP hs w d → okL 6 (2 * w + m) d = true := fun {d m} p => okL_up (Nat.le_refl _) _ _ _ (by omega) (p.ok C)
  induction h with
  | @set n x d p q => exact okL_tup (n := 2 * w + (2 * n + 1)) (by show 3 ≤ 6; decide) (mem3 (okL_c (by decide +kernel)) (okL_w (nxyz_ok p)) (v q))
  | @one n o d p q => exact okL_tup (n := 2 * w + (2 * n + 1)) (by show 2 ≤ 6; decide) (mem2 (okL_w (one_ok p)) (v q))
  | @ite n d ss ts q l1 _ l2 _ i1 i2 => exact okL_tup (n := 2 * w + (2 * n + 1)) (by show 4 ≤ 6; decide) (mem4 (okL_c (by decide +kernel)) (v q) (okL_tup (n := 2 * w + 2 * n) l1 i1) (okL_tup (n := 2 * w + 2 * n) l2 i2))
  | @whl n d ss q l1 _ i1 => exact okL_tup (n := 2 * w + (2 * n + 1)) (by show 3 ≤ 6; decide) (mem3 (okL_c (by decide +kernel)) (v q) (okL_tup (n := 2 * w + 2 * n) l1 i1))
  | @tr n x ss ts p l1 _ l2 _ i1 i2 => exact okL_tup (n := 2 * w + (2 * n + 1)) (by show 4 ≤ 6; decide) (mem4 (okL_c (by decide +kernel)) (okL_tup (n := 2 * w + 2 * n) l1 i1) (okL_w (nxyz_ok p)) (okL_tup (n := 2 * w + 2 * n) l2 i2))
/-! ### trees -/
def treeNames : List Str := ["main", "b", "part", "dd", "eeeeeeee", "f"]
def dwT : List (Nat × Nat) := [(2, 3), (3, 2), (2, 2), (1, 4), (4, 1), (2, 3)]
def argW : List Str := ["n", "x", "y"]
def argN (k : Nat) : List PyData := (argW.take k).map .str
def TupP (hs : Hds) (p : Str × Nat) (d : PyData) : Prop := ∃ (ss : List PyData) (dw : Nat × Nat), dw ∈ dwT ∧ d = .tuple [.str p.1, .tuple (argN p.2), .tuple ss] ∧ ss ≠ [] ∧ ss.length ≤ 6 ∧ ∀ s ∈ ss, SayP hs (max dw.2 2) dw.1 s
def TreeP (d : PyData) : Prop := ∃ hs : Hds, HdC hs ∧ (∀ p ∈ hs, p.1 ∈ treeNames) ∧ ∃ ds, d = .tuple ds ∧ ds.length = hs.length ∧ ∀ (i : Nat) x p, ds[i]? = some x → hs[i]? = some p → TupP hs p x
abbrev s_tree : Stmt := topS 32
abbrev NTr : List Str := ["_law_bag_here", "_law_many", "_law_names", "_law_heads", "_law_name", "_law_found", "_law_deep", "_law_wide", "_law_sayings_here"]
theorem sc_tree : FnScope NTr ["_law_bag_here"] (defScope s_tree) := ⟨rfl, rfl, rfl, by decide +kernel, rfl, by decide +kernel, by decide +kernel⟩
theorem cutN (ys : List PyData) (k : Nat) : cutD ys none (some ((k : Nat) : Int)) = ys.take k := by
  unfold cutD
  rw [HT.sIx_none]
  have e2 : HT.sIx ys.length ys.length (some ((k : Nat) : Int)) = min k ys.length := HT.sIx_nat ys.length ys.length k
  rw [e2, List.drop_zero, Nat.sub_zero]
  by_cases h5 : k ≤ ys.length
  · rw [Nat.min_eq_left h5]
  · rw [Nat.min_eq_right (by omega), List.take_of_length_le (Nat.le_refl _), List.take_of_length_le (by omega)]
theorem cutNV (ys : List V) (k : Nat) : cutV ys none (some ((k : Nat) : Int)) = ys.take k := by
  unfold cutV
  rw [HT.sIx_none]
  have e2 : HT.sIx ys.length ys.length (some ((k : Nat) : Int)) = min k ys.length := HT.sIx_nat ys.length ys.length k
  rw [e2, List.drop_zero, Nat.sub_zero]
  by_cases h5 : k ≤ ys.length
  · rw [Nat.min_eq_left h5]
  · rw [Nat.min_eq_right (by omega), List.take_of_length_le (Nat.le_refl _), List.take_of_length_le (by omega)]
theorem hd_put {hs : Hds} {x : Str} {k : Nat} (h : x ∉ hs.map Prod.fst) : putK (hdK hs) (Sum.inr x) (.int (k : Nat)) = hdK (hs ++ [(x, k)]) := by
  have : valV (hdK hs) (Sum.inr x) = none := by
    unfold valV hdK
    rw [Option.map_eq_none_iff, List.find?_eq_none]
    intro p hp
    obtain ⟨y, hy, rfl⟩ := List.mem_map.mp hp
    have : y.1 ≠ x := fun e => h (by rw [← e]; exact List.mem_map.mpr ⟨y, hy, rfl⟩)
    simpa using this
  rw [putK_new _ this]
  unfold hdK
  rw [List.map_append]
  rfl
/-- one promise of many -/
theorem FnOk.ex {P : Program} {w : World} {K : PySem.W.Frag} {mg : Str → Option Value} {base : Heap} {L N : Nat} {f : Addr} {fd : FuncData} {ps : List Str} {sp : Nat → Sp} (h : ∀ n, n ≤ N → FnOk P w K mg base CX0 L f fd ps (sp n)) : FnOk P w K mg base CX0 L f fd ps (fun vs H Q E => ∃ n, n ≤ N ∧ sp n vs H Q E) :=
  ⟨fun vs H Q E ⟨n, hn, z⟩ => (h n hn).len vs H Q E z, fun A outer s H args us vs Q E hr e0 hb rv ⟨n, hn, z⟩ => (h n hn).run A outer s H args us vs Q E hr e0 hb rv z⟩
abbrev spSx (K : PySem.W.Frag) (Po : Hds → Nat → Nat → PyData → Prop) : Sp := fun vs H Q E => ∃ n, n ≤ 4 ∧ spS K Po n vs H Q E
section
variable {K : PySem.W.Frag} {b : List Addr} {a h : Addr} {n m k : Nat} {σ : L2.St} {H H' : Hp} {ta tb te : TE} {t : TA} {tt : TT} {ts t1 t2 : TS} {P P' : PyData → Prop} {d : PyData} {hs : Hds} {D : Ends}
theorem eg_sayX {E : XK} {Po : Hds → Nat → Nat → PyData → Prop} {i j i2 i3 c l : Nat} (hc : 0 < c) (hc4 : c ≤ 4) (hl : 0 < l) (hl6 : l ≤ 6) (ha : a ∈ b) (hb : σ[i]? = some (some (.ref a))) (hh : σ[j]? = some (some (.ref h))) (h2 : σ[i2]? = some (some (.int (c : Nat)))) (h3 : σ[i3]? = some (some (.int (l : Nat)))) (hd : HdAt H h hs) (ne : h ≠ a) (C : HdC hs) :
    EG K b a n m (tCall (spSx K Po) [] E (tCons (tVar i) (tCons (tVar j) (tCons (tVar i2) (tCons (tVar i3) tNil))))) σ H (Po hs l c) := fun H1 x1 kn bg Q q =>
  ⟨.ref a, hb, .ref h, hh, .int (c : Nat), h2, .int (l : Nat), h3, c, hc4, hc, b, a, h, hs, l, rfl, hl, hl6, ha, kn, bg, hd.upB ne x1, C, fun v d H3 x3 b3 hv p => q v d H3 x3 b3 hv p⟩
theorem g_slL {i j : Nat} {xs : List Str} (hd : EA K b t σ H (xs.map .str)) (hl : xs.length ≤ 1000) (he : ∀ H1, ED K b te σ H1 (.int (j : Nat))) (k : ∀ pn H', H pn = none → Ex H H' → H' pn = some (.lst ((xs.take j).map V.str)) → ts D (σ.set i (some (.ref pn))) H') : tSeq (tAsg (tSl (rSlL K) (tLst t) tNoPart (tPart te)) (gName i)) ts D σ H :=
  hd H (Ex.refl H) _ fun vs H1 x1 hv => ⟨by
    rw [dps_len hv, List.length_map, sizeLine_eq]
    omega, fun p hp => he _ _ (Ex.refl _) _ fun v H2 x2 hj => ⟨(j : Nat), dq_int hj, p, vs, rfl, .inl (.inl (x2 _ _ upd_same)), fun pn hpn => by
      have ev := dps_strs hv
      subst ev
      rw [cutNV, ← List.map_take]
      refine k pn _ ?_ ((x1.trans (Ex.new hp)).trans (x2.trans (Ex.new hpn))) upd_same
      cases z : H pn with
      | none => rfl
      | some o => rw [x2 _ _ (Ex.new hp _ _ (x1 _ _ z))] at hpn; cases hpn⟩⟩
theorem g_setG {i : Nat} {P1 : PyData → Prop} (h : EG K b a n k te σ H P1) (kn : Kn b H) (bg : Bag a n H) (kk : ∀ v d H', ExB a H H' → Bag a k H' → Kn b H' → Dq K b H' v d → P1 d → ts D (σ.set i (some v)) H') : tSeq (tAsg te (gName i)) ts D σ H :=
  h H (ExB.refl a H) kn bg _ fun v d H' x bg' hv p => kk v d H' x bg' (x.kn kn bg') hv p
theorem g_lst {i : Nat} {ds : List PyData} (kn : Kn b H) (hd : EA K b t σ H ds) (hl : ds.length ≤ sizeLine) (k : ∀ p vs H', H p = none → Ex H H' → H' p = some (.lst vs) → DqAll K b H' vs ds → ts D (σ.set i (some (.ref p))) H') : tSeq (tAsg (tLst t) (gName i)) ts D σ H :=
  hd H (Ex.refl H) _ fun vs H1 x1 hv => ⟨by rw [dps_len hv]; exact hl, fun p hp => k p vs _ (by
    cases q : H p with
    | none => rfl
    | some o => rw [x1 _ _ q] at hp; cases hp) (x1.trans (Ex.new hp)) upd_same (DqAll.up hv (Ex.new hp))⟩
theorem g_app {j : Nat} {F : Addr} {vs : List V} (hσ : σ[j]? = some (some (.ref F))) (hF : H F = some (.lst vs)) (hl : vs.length < 10000000) (he : ED K b te σ H d) (kk : ∀ y H', Ex H H' → Dq K b H' y d → D.nx σ (upd H' F (.lst (vs ++ [y])))) : tDrop (tBM K "list" rAppend (tVar j) (tCons te tNil)) D σ H :=
  ⟨.ref F, hσ, .inl ⟨rfl, _, .inl (.inl hF)⟩, he H (Ex.refl H) _ fun y H' x hy => ⟨F, vs, y, rfl, rfl, x _ _ hF, by rw [sizeLine_eq]; omega, kk y H' x hy⟩⟩
theorem g_dnew {i : Nat} (k : ∀ p, H p = none → ts D (σ.set i (some (.ref p))) (upd H p (.dK []))) : tSeq (tAsg tDNewK (gName i)) ts D σ H := k
end
theorem tn_ok {x : Str} (h : x ∈ treeNames) : nameS x = true ∧ PyData.strOk x = true := by
  have q : (treeNames.all fun x => nameS x && PyData.strOk x) = true := by decide +kernel
  have := List.all_eq_true.mp q x h
  rw [Bool.and_eq_true] at this
  exact this
theorem tn_nd : treeNames.Nodup := by decide +kernel
theorem tup_nil (ss : List PyData) : PyData.eqv (.tuple ss) (.tuple []) = decide (ss = []) := by
  cases ss with
  | nil => simp [PyData.eqv, PyData.eqvAll]
  | cons x r => simp [PyData.eqv, PyData.eqvAll]
section
variable {P : Program} {w : World} {K : PySem.W.Frag} {mg : Str → Option Value} {base : Heap} {f f2 f3 g g2 g3 : Addr} {fd fd2 fd3 gd gd2 gd3 : FuncData}
theorem ok_tree (D : Def K mg "_law_tree" s_tree ["_law_bag_here"] f fd) (D1 : Def K mg "_law_take" s_take ["_law_bag_here", "_law_many"] g gd) (Ds : Def K mg "_law_sayings" s_sayings PSa f2 fd2) (Dy : Def K mg "_law_saying" s_saying PSa f3 fd3) (D3 : Def K mg "_law_value" s_value PVa g3 gd3) (D4 : Def K mg "_law_worth" s_worthT ["_law_bag_here"] g2 gd2) (B : Blt mg) (hso : mg "sorted" = none) :
    FnOk P w K mg base CX0 17 f fd ["_law_bag_here"] (spG K 0 (· = []) fun _ d => TreeP d) := by
  refine D.F.ok sc_tree (fun vs H Q E h => spG_len (fun ds e => by rw [e]; rfl) h) (fun cdv A outer s H vs Q E hr h => ?_)
  obtain ⟨b, a, k, ws, ds, rfl, hab, kn, bg, hd, rfl, q⟩ := h
  cases hd
  have G1 := ok_take (P := P) (w := w) (base := base) D1
  have GG := ok_both (P := P) (w := w) (base := base) Dy D1 Ds D3 D4 B hso
  have r1 : Room 1 _ := hr.mono (by decide)
  have Gs := FnOk.ex (L := 16) (N := 4) (sp := spS K SaysQ) fun n hn => (GG n).2.mono (by omega)
  have Gy := FnOk.ex (L := 16) (N := 4) (sp := spS K SayQ) fun n hn => (GG n).1.mono (by omega)
  refine ⟨_, pss_cons (ps_set (i := 1) sc_tree.nd rfl (Or.inl rfl) (pe_ix ix_list (pe_lst (pa_cons pe_int (pa_cons pe_int (pa_cons pe_int (pa_cons pe_int (pa_cons pe_int (pa_cons pe_int (pa_cons pe_int (pa_cons pe_int pa_nil))))))))) (pe_cd D1 G1 r1 (pa_cons (pv 0) (pa_cons pe_int pa_nil))) (fun _ _ => rfl)))
    (pss_cons (ps_set (i := 2) sc_tree.nd rfl (Or.inl rfl) (pe_slice sl_list (pe_lst (pa_cons pe_str (pa_cons pe_str (pa_cons pe_str (pa_cons pe_str (pa_cons pe_str (pa_cons pe_str pa_nil))))))) po_none (po_some (pv 1))))
    (pss_cons (ps_set (i := 3) sc_tree.nd rfl (Or.inl rfl) pe_dnewK)
    (pss_cons (ps_for PassesOwn.never rfl (pi_list (pv 2)) (pg_name (i := 4) sc_tree.nd rfl (Or.inl rfl)) (pss_one (ps_asg (pe_cd D1 G1 r1 (pa_cons (pv 0) (pa_cons pe_int pa_nil))) (pg_sub (pv 3) (pv 4) (set_dict (hu_of hr))))))
    (pss_cons (ps_set (i := 5) sc_tree.nd rfl (Or.inl rfl) (pe_lst pa_nil))
    (pss_cons (ps_for PassesOwn.never rfl (pi_list (pv 2)) (pg_name (i := 4) sc_tree.nd rfl (Or.inl rfl))
      (pss_cons (ps_asg (pe_ix ix_list (pe_lst (pa_cons (pe_tupF (pa_cons pe_int (pa_cons pe_int pa_nil))) (pa_cons (pe_tupF (pa_cons pe_int (pa_cons pe_int pa_nil))) (pa_cons (pe_tupF (pa_cons pe_int (pa_cons pe_int pa_nil))) (pa_cons (pe_tupF (pa_cons pe_int (pa_cons pe_int pa_nil))) (pa_cons (pe_tupF (pa_cons pe_int (pa_cons pe_int pa_nil))) (pa_cons (pe_tupF (pa_cons pe_int (pa_cons pe_int pa_nil))) pa_nil))))))) (pe_cd D1 G1 r1 (pa_cons (pv 0) (pa_cons pe_int pa_nil))) (fun _ _ => rfl)) (pg_tup rfl (pgs_cons (pg_name (i := 6) sc_tree.nd rfl (Or.inl rfl)) (pgs_cons (pg_name (i := 7) sc_tree.nd rfl (Or.inl rfl)) pgs_nil))))
      (pss_cons (ps_set (i := 8) sc_tree.nd rfl (Or.inl rfl) (pe_cd Ds Gs hr (pa_cons (pv 0) (pa_cons (pv 3) (pa_cons (pv 6) (pa_cons (pv 7) pa_nil))))))
      (pss_cons (ps_if (pt_cmpR (op_eqD (hu64 hr)) (pv 8) (pe_tupF pa_nil) (nomark _)) (pss_one (ps_set (i := 8) sc_tree.nd rfl (Or.inl rfl) (pe_tupF (pa_cons (pe_cd Dy Gy hr (pa_cons (pv 0) (pa_cons (pv 3) (pa_cons (pv 6) (pa_cons (pv 7) pa_nil))))) pa_nil)))) pss_nil)
      (pss_one (ps_expr (pe_bm PySem.F.plainAttrs_list PySem.F.slot_list_append PySem.F.type_list_append mt_append (pv 5) (pa_cons (pe_tupF (pa_cons (pv 4) (pa_cons (pe_slice sl_tupF (pe_tupF (pa_cons pe_str (pa_cons pe_str (pa_cons pe_str pa_nil)))) po_none (po_some (pe_dget (hu_of hr) (pv 3) (pv 4) (fun _ _ => rfl)))) (pa_cons (pv 8) pa_nil)))) pa_nil))))))))
    (pss_one (ps_ret (pe_callTy call_tupF rfl B.tuple bt_tuple (pa_cons (pv 5) pa_nil))))))))), ?_⟩
  have hsl : sizeLine = 16777216 := sizeLine_eq
  have tk : ∀ {b' : List Addr} {σ' : L2.St} {H'' : Hp} {u : Int}, a ∈ b' → σ'[0]? = some (some (.ref a)) → 0 < u → u < 1073741824 → EG K b' a 0 0 (tCall (spTake K) [] E0 (tCons (tVar 0) (tCons (tC (.int u)) tNil))) σ' H'' (IntB u) := fun {_ _ _ _} h0 h1 h2 h3 => eg_take h0 h1 h2 h3
  refine g_setG (K := K) (b := b) (a := a) (n := 0) (k := 0) (P1 := fun d => ∃ j : Nat, d = .int (j : Nat) ∧ 1 ≤ j ∧ j ≤ 6) (eg_ixL (k := 0) hab (eg_pure (P := (· = .list [.int 1, .int 2, .int 2, .int 3, .int 3, .int 2, .int 1, .int 6])) (fun H2 x2 kn2 => ed_lst kn2 (ea_cons ed_int (ea_cons ed_int (ea_cons ed_int (ea_cons ed_int (ea_cons ed_int (ea_cons ed_int (ea_cons ed_int (ea_cons ed_int ea_nil)))))))) (by decide)) rfl) (tk hab rfl (by decide) (by decide)) ?_) kn bg.any fun v d H1 x1 b1 kn1 hv ⟨j, ej, j1, j6⟩ => ?_
  · rintro d e rfl hi
    obtain ⟨i, z, rfl, hz, hm⟩ := intB_at (ds := [.int 1, .int 2, .int 2, .int 3, .int 3, .int 2, .int 1, .int 6]) hi (by decide)
    refine ⟨_, i, z, rfl, rfl, hz, ?_⟩
    simp only [List.mem_cons, List.not_mem_nil, or_false] at hm
    rcases hm with rfl | rfl | rfl | rfl | rfl | rfl | rfl | rfl
    · exact ⟨1, rfl, by decide, by decide⟩
    · exact ⟨2, rfl, by decide, by decide⟩
    · exact ⟨2, rfl, by decide, by decide⟩
    · exact ⟨3, rfl, by decide, by decide⟩
    · exact ⟨3, rfl, by decide, by decide⟩
    · exact ⟨2, rfl, by decide, by decide⟩
    · exact ⟨1, rfl, by decide, by decide⟩
    · exact ⟨6, rfl, by decide, by decide⟩
  subst ej
  have ev := dq_int hv
  subst ev
  refine g_slL (K := K) (b := b) (xs := treeNames) (j := j) (ea_cons ed_str (ea_cons ed_str (ea_cons ed_str (ea_cons ed_str (ea_cons ed_str (ea_cons ed_str ea_nil)))))) (by decide) (fun H' => ed_var (i := 1) rfl (.int _)) fun pn H2 hpn x2 h2 => ?_
  obtain ⟨nm, enm⟩ : ∃ nm, nm = treeNames.take j := ⟨_, rfl⟩
  have lnm : nm.length = j := by
    rw [enm, List.length_take]
    show min j 6 = j
    omega
  have nnd : nm.Nodup := by
    rw [enm]
    exact (List.take_sublist j treeNames).nodup tn_nd
  have nmem : ∀ x ∈ nm, x ∈ treeNames := fun x hx => by
    rw [enm] at hx
    exact List.mem_of_mem_take hx
  rw [← enm] at h2
  refine g_dnew fun hd hhd => ?_
  have bg2 := b1.ex x2
  have kn2 := kn1.up x2
  have x3 : Ex H2 (upd H2 hd (.dK [])) := Ex.new hhd
  have hd3 : (upd H2 hd (.dK [])) hd = some (.dK []) := upd_same
  generalize upd H2 hd (.dK []) = H3 at x3 hd3
  have pna : pn ≠ a := fun e => b1.there (e ▸ hpn)
  have hda : hd ≠ a := fun e => bg2.there (e ▸ hhd)
  have hdp : hd ≠ pn := fun e => by rw [e, h2] at hhd; cases hhd
  have hdb : hd ∉ b := kn2.new hhd
  have h3 := x3 _ _ h2
  refine ⟨.ref pn, rfl, pn, rfl, ⟨_, .inl (.inl h3)⟩, ?_⟩
  refine for_list (xs := nm.map V.str) (Pv := fun i σ' H' => (∃ y4, σ' = [some (.ref a), some (.int (j : Nat)), some (.ref pn), some (.ref hd), y4, none, none, none, none]) ∧ (∀ c o, c ≠ a → c ≠ hd → H3 c = some o → H' c = some o) ∧ Bag a 0 H' ∧ ∃ hs : Hds, HdAt H' hd hs ∧ hs.map Prod.fst = nm.take i ∧ ∀ p ∈ hs, p.2 ≤ 3)
    ⟨⟨none, rfl⟩, fun c o _ _ z => z, bg2.ex x3, [], hd3, rfl, fun p hp => nomatch hp⟩ (fun i σ' H' _ p => .inl (.inl (p.2.1 _ _ pna (Ne.symm hdp) h3))) ?_ ?_
  · intro i x σ' H' hx ⟨⟨y4, eσ⟩, hg, bg', hs, hat, hfst, hle⟩
    subst eσ
    have hi : i < nm.length := by
      have := (List.getElem?_eq_some_iff.mp hx).1
      rw [List.length_map] at this
      exact this
    have hxi : nm[i]? = some nm[i] := List.getElem?_eq_getElem hi
    have ex : x = .str nm[i] := by
      rw [List.getElem?_map, hxi] at hx
      exact (Option.some.inj hx).symm
    subst ex
    have kn' : Kn b H' := fun c hc z => by
      by_cases e : c = a
      · subst e
        exact bg'.there z
      · have hch : c ≠ hd := fun e => hdb (e ▸ hc)
        cases y : H3 c with
        | none => exact (kn2.up x3) c hc y
        | some o => rw [hg c o e hch y] at z; cases z
    refine (tk (b' := b) (σ' := [some (.ref a), some (.int (j : Nat)), some (.ref pn), some (.ref hd), some (.str nm[i]), none, none, none, none]) hab rfl (by decide) (by decide)) H' (ExB.refl a H') kn' bg' _ fun v d H5 x5 b5 hv ⟨r, er, r0, r1'⟩ => ?_
    subst er
    have ev := dq_int hv
    subst ev
    have hat5 := hat.upB hda x5
    have lhs : hs.length = i := by
      have := congrArg List.length hfst
      rw [List.length_map, List.length_take] at this
      omega
    obtain ⟨m, rfl⟩ : ∃ m : Nat, r = (m : Nat) := ⟨r.toNat, (Int.toNat_of_nonneg r0).symm⟩
    refine ⟨.ref hd, rfl, .str nm[i], rfl, hd, _, rfl, .inl ⟨hdK hs, Sum.inr nm[i], hat5, rfl, by
      have : (hdK hs).length = hs.length := List.length_map ..
      omega, rfl⟩, ⟨_, rfl⟩, fun c o h1 h2' z => ?_, ?_, hs ++ [(nm[i], m)], ?_, ?_, fun p hp => ?_⟩
    · rw [upd_ne h2']
      exact x5 _ _ h1 (hg c o h1 h2' z)
    · obtain ⟨g', y, e1, e2⟩ := b5
      exact ⟨g', y, by rw [upd_ne (Ne.symm hda)]; exact e1, e2⟩
    · unfold HdAt
      rw [upd_same, hd_put]
      rw [hfst]
      intro hm
      obtain ⟨k', hk', ek'⟩ := List.mem_iff_getElem.mp hm
      rw [List.length_take] at hk'
      rw [List.getElem_take] at ek'
      have := (List.getElem_inj nnd).mp ek'
      omega
    · rw [List.map_append, hfst, List.take_add_one, hxi]
      rfl
    · rcases List.mem_append.mp hp with hp | hp
      · exact hle p hp
      · rw [List.mem_singleton.mp hp]
        show m ≤ 3
        omega
  intro σ' H4 ⟨⟨y4, eσ⟩, hg4, bg4, hs, hat4, hfst, hle⟩
  subst eσ
  rw [List.length_map, List.take_of_length_le (Nat.le_refl _)] at hfst
  have lhs : hs.length = nm.length := by
    have := congrArg List.length hfst
    rw [List.length_map] at this
    exact this
  have C : HdC hs := ⟨fun e => by rw [e] at lhs; rw [lnm] at lhs; simp at lhs; omega, by omega, hle, by rw [hfst]; exact nnd, fun p hp => tn_ok (nmem _ (by rw [← hfst]; exact List.mem_map.mpr ⟨p, hp, rfl⟩))⟩
  have kn4 : Kn b H4 := fun c hc z => by
    by_cases e : c = a
    · subst e
      exact bg4.there z
    · have hch : c ≠ hd := fun e => hdb (e ▸ hc)
      cases y : H3 c with
      | none => exact (kn2.up x3) c hc y
      | some o => rw [hg4 c o e hch y] at z; cases z
  have hp4 : H4 pn = some (.lst (nm.map V.str)) := hg4 _ _ pna (Ne.symm hdp) h3
  refine g_lst (K := K) (b := b) (ds := []) kn4 ea_nil (by decide) fun F vF H5 hF x5 h5 dF => ?_
  cases dF
  have Fa : F ≠ a := fun e => bg4.there (e ▸ hF)
  have Fb : F ∉ b := kn4.new hF
  have Fh : F ≠ hd := fun e => by
    have : H4 hd = some (.dK (hdK hs)) := hat4
    rw [← e, hF] at this
    cases this
  have Fp : F ≠ pn := fun e => by rw [e, hp4] at hF; cases hF
  have hab2 : a ∈ F :: b := List.mem_cons_of_mem _ hab
  have hp5 := x5 _ _ hp4
  refine ⟨.ref pn, rfl, pn, rfl, ⟨_, .inl (.inl hp5)⟩, ?_⟩
  refine for_list (xs := nm.map V.str) (Pv := fun i σ' H' => (∃ y4 y6 y7 y8, σ' = [some (.ref a), some (.int (j : Nat)), some (.ref pn), some (.ref hd), y4, some (.ref F), y6, y7, y8]) ∧ (∀ c o, c ≠ a → c ≠ F → H5 c = some o → H' c = some o) ∧ Bag a 0 H' ∧ ∃ vs ds, H' F = some (.lst vs) ∧ DqAll K (F :: b) H' vs ds ∧ ds.length = i ∧ ∀ (k : Nat) x p, ds[k]? = some x → hs[k]? = some p → TupP hs p x)
    ⟨⟨y4, none, none, none, rfl⟩, fun c o _ _ z => z, bg4.ex x5, [], [], h5, .nil, rfl, fun k x p h => by simp at h⟩ (fun i σ' H' _ p => .inl (.inl (p.2.1 _ _ pna (Ne.symm Fp) hp5))) ?_ ?_
  · intro i x σ' H' hx ⟨⟨z4, y6, y7, y8, eσ⟩, hg, bg', vs, ds, hF', hds, lds, hR⟩
    subst eσ
    have hi : i < nm.length := by
      have := (List.getElem?_eq_some_iff.mp hx).1
      rw [List.length_map] at this
      exact this
    have hxi : nm[i]? = some nm[i] := List.getElem?_eq_getElem hi
    have ex : x = .str nm[i] := by
      rw [List.getElem?_map, hxi] at hx
      exact (Option.some.inj hx).symm
    obtain ⟨p, hpi⟩ : ∃ p, hs[i]? = some p := ⟨_, List.getElem?_eq_getElem (by omega)⟩
    have hpm := List.mem_of_getElem? hpi
    have ep : p.1 = nm[i] := by
      have e1 : (hs.map Prod.fst)[i]? = some p.1 := by rw [List.getElem?_map, hpi]; rfl
      rw [hfst, hxi] at e1
      exact (Option.some.inj e1).symm
    rw [← ep] at ex
    subst ex
    have kn' : Kn (F :: b) H' := fun c hc z => by
      rcases List.mem_cons.mp hc with rfl | hc
      · rw [hF'] at z; cases z
      · by_cases e : c = a
        · subst e
          exact bg'.there z
        · have hcF : c ≠ F := fun e => Fb (e ▸ hc)
          cases y : H5 c with
          | none => exact (kn4.up x5) c hc y
          | some o => rw [hg c o e hcF y] at z; cases z
    have hat' : HdAt H' hd hs := hg _ _ hda (Ne.symm Fh) (x5 _ _ hat4)
    have eg : EG K (F :: b) a 0 0 (tOp (rIxL K) (tLst (tCons (tTupF (tCons (tC (.int 2)) (tCons (tC (.int 3)) tNil))) (tCons (tTupF (tCons (tC (.int 3)) (tCons (tC (.int 2)) tNil))) (tCons (tTupF (tCons (tC (.int 2)) (tCons (tC (.int 2)) tNil))) (tCons (tTupF (tCons (tC (.int 1)) (tCons (tC (.int 4)) tNil))) (tCons (tTupF (tCons (tC (.int 4)) (tCons (tC (.int 1)) tNil))) (tCons (tTupF (tCons (tC (.int 2)) (tCons (tC (.int 3)) tNil))) tNil))))))) (tCall (spTake K) [] E0 (tCons (tVar 0) (tCons (tC (.int 6)) tNil)))) [some (.ref a), some (.int (j : Nat)), some (.ref pn), some (.ref hd), some (.str p.1), some (.ref F), y6, y7, y8] H' (fun d => ∃ dw ∈ dwT, d = .tuple [.int (dw.1 : Nat), .int (dw.2 : Nat)]) := by
      refine eg_ixL (k := 0) hab2 (eg_pure (P := (· = .list (dwT.map fun dw => .tuple [.int (dw.1 : Nat), .int (dw.2 : Nat)]))) (fun H2 x2 kn2 => ?_) rfl) (tk hab2 rfl (by decide) (by decide)) ?_
      · have tt : ∀ c e : Nat, ED K (F :: b) (tTupF (tCons (tC (.int (c : Nat))) (tCons (tC (.int (e : Nat))) tNil))) [some (.ref a), some (.int (j : Nat)), some (.ref pn), some (.ref hd), some (.str p.1), some (.ref F), y6, y7, y8] H2 (.tuple [.int (c : Nat), .int (e : Nat)]) := fun c e => ed_tup kn2 (ea_cons ed_int (ea_cons ed_int ea_nil)) (by rw [hsl]; show 2 ≤ 16777216; decide)
        exact ed_lst kn2 (ea_cons (tt 2 3) (ea_cons (tt 3 2) (ea_cons (tt 2 2) (ea_cons (tt 1 4) (ea_cons (tt 4 1) (ea_cons (tt 2 3) ea_nil)))))) (by decide)
      · rintro d e rfl hi'
        obtain ⟨i', z, rfl, hz, hm⟩ := intB_at (ds := dwT.map fun dw => .tuple [.int (dw.1 : Nat), .int (dw.2 : Nat)]) hi' (by decide)
        obtain ⟨dw, hdw, rfl⟩ := List.mem_map.mp hm
        exact ⟨_, i', _, rfl, rfl, hz, dw, hdw, rfl⟩
    refine eg H' (ExB.refl a H') kn' bg' _ fun v d H6 x6 b6 hv ⟨dw, hdw, ed⟩ => ?_
    subst ed
    have dwb : 0 < dw.1 ∧ dw.1 ≤ 4 ∧ 0 < dw.2 ∧ dw.2 ≤ 6 := by
      have q' : (dwT.all fun dw => decide (0 < dw.1 ∧ dw.1 ≤ 4 ∧ 0 < dw.2 ∧ dw.2 ≤ 6)) = true := by decide
      exact of_decide_eq_true (List.all_eq_true.mp q' dw hdw)
    have kn6 : Kn (F :: b) H6 := x6.kn kn' b6
    cases hv with
    | @tup t xs _ k1 kN k2 =>
    cases k2 with
    | cons a1 k2 =>
    cases k2 with
    | cons a2 k2 =>
    cases k2
    have e1 := dq_int a1
    have e2 := dq_int a2
    subst e1 e2
    refine ⟨t, [.int (dw.1 : Nat), .int (dw.2 : Nat)], rfl, ex_t hid_le k1, rfl, .int (dw.1 : Nat), [.int (dw.2 : Nat)], rfl, .int (dw.2 : Nat), [], rfl, rfl, ?_⟩
    have hat6 := hat'.upB hda x6
    refine g_setG (K := K) (b := F :: b) (a := a) (n := 0) (k := 0) (P1 := SaysQ hs dw.2 dw.1) (eg_sayX (Po := SaysQ) (i := 0) (j := 3) (i2 := 6) (i3 := 7) dwb.1 dwb.2.1 dwb.2.2.1 dwb.2.2.2 hab2 rfl rfl rfl rfl hat6 hda C) kn6 b6 fun v8 d8 H7 x7 b7 kn7 hv8 ⟨ss, es, l6, hss⟩ => ?_
    subst es
    have tpl : ∀ (v8 : V) (ss : List PyData) (H8 : Hp), ExB a H6 H8 → Kn (F :: b) H8 → Dq K (F :: b) H8 v8 (.tuple ss) → ED K (F :: b) (tTupF (tCons (tVar 4) (tCons (tSl (rSlF K) (tTupF (tCons (tC (.str "n")) (tCons (tC (.str "x")) (tCons (tC (.str "y")) tNil)))) tNoPart (tPart (tDGet (tVar 3) (tVar 4)))) (tCons (tVar 8) tNil)))) [some (.ref a), some (.int (j : Nat)), some (.ref pn), some (.ref hd), some (.str p.1), some (.ref F), some (.int (dw.1 : Nat)), some (.int (dw.2 : Nat)), some v8] H8 (.tuple [.str p.1, .tuple (argN p.2), .tuple ss]) := fun v8 ss H8 x8 kn8 hv8 => by
      have hat8 := hat6.upB hda x8
      have sl := ed_slT (K := K) (b := F :: b) kn8 (ed_tup (K := K) (b := F :: b) (σ := [some (V.ref a), some (.int (j : Nat)), some (.ref pn), some (.ref hd), some (.str p.1), some (.ref F), some (.int (dw.1 : Nat)), some (.int (dw.2 : Nat)), some v8]) (ds := argW.map .str) kn8 (ea_cons ed_str (ea_cons ed_str (ea_cons ed_str ea_nil))) (by decide)) eo_none (eo_some (ed_dget (K := K) (b := F :: b) (i := 3) (j := 4) rfl rfl hat8 C hpm))
      rw [cutN, ← List.map_take] at sl
      exact ed_tup kn8 (ea_cons (ed_var (i := 4) rfl (.str _)) (ea_cons sl (ea_cons (ed_var (i := 8) rfl hv8) ea_nil))) (by rw [hsl]; show 3 ≤ 16777216; decide)
    have hFup : ∀ {H8 : Hp}, ExB a H6 H8 → H8 F = some (.lst vs) := fun {H8} x8 => x8 _ _ Fa (x6 _ _ Fa hF')
    have lvs : vs.length < 10000000 := by
      rw [dps_len hds]
      omega
    have fin : ∀ (y : V) (ss : List PyData) (H8 : Hp), ExB a H6 H8 → Bag a 0 H8 → Dq K (F :: b) H8 y (.tuple [.str p.1, .tuple (argN p.2), .tuple ss]) → ss ≠ [] → ss.length ≤ 6 → (∀ s ∈ ss, SayP hs (max dw.2 2) dw.1 s) →
        (∀ c o, c ≠ a → c ≠ F → H5 c = some o → (upd H8 F (.lst (vs ++ [y]))) c = some o) ∧ Bag a 0 (upd H8 F (.lst (vs ++ [y]))) ∧ ∃ vs' ds', (upd H8 F (.lst (vs ++ [y]))) F = some (.lst vs') ∧ DqAll K (F :: b) (upd H8 F (.lst (vs ++ [y]))) vs' ds' ∧ ds'.length = i + 1 ∧ ∀ (k : Nat) x p, ds'[k]? = some x → hs[k]? = some p → TupP hs p x := fun y ss H8 x8 b8 hy n0 l6 hss => by
      refine ⟨fun c o h1 h2 z => ?_, ?_, vs ++ [y], ds ++ [.tuple [.str p.1, .tuple (argN p.2), .tuple ss]], upd_same, ?_, ?_, fun k x p' hk hp' => ?_⟩
      · rw [upd_ne h2]
        exact x8 _ _ h1 (x6 _ _ h1 (hg c o h1 h2 z))
      · obtain ⟨g', y', e1, e2⟩ := b8
        exact ⟨g', y', by rw [upd_ne (Ne.symm Fa)]; exact e1, e2⟩
      · exact dps_ex put_ex _ _ (dps_app (DqAll.upB hab2 (DqAll.upB hab2 hds x6) x8) (.cons hy .nil))
      · rw [List.length_append, lds]
        rfl
      · by_cases hkl : k < ds.length
        · rw [List.getElem?_append_left hkl] at hk
          exact hR k x p' hk hp'
        · rw [List.getElem?_append_right (by omega)] at hk
          have hk0 : k - ds.length = 0 := by
            by_cases hz : k - ds.length = 0
            · exact hz
            · rw [List.getElem?_eq_none (by rw [List.length_singleton]; omega)] at hk
              cases hk
          rw [hk0] at hk
          have ex : PyData.tuple [.str p.1, .tuple (argN p.2), .tuple ss] = x := Option.some.inj hk
          have ek : k = i := by omega
          rw [ek, hpi] at hp'
          cases hp'
          exact ⟨ss, dw, hdw, ex.symm, n0, l6, hss⟩
    have okss : okD 40 (.tuple ss) = true := ok_up (okL_ok (L := 6) (by decide) _ _ (okL_tup (n := 2 * max dw.2 2 + 2 * dw.1) l6 fun s' h' => (hss s' h').ok C)) (by omega)
    have tst := et_t (ed_eq (K := K) (b := F :: b) (ed_var (σ := [some (.ref a), some (.int (j : Nat)), some (.ref pn), some (.ref hd), some (.str p.1), some (.ref F), some (.int (dw.1 : Nat)), some (.int (dw.2 : Nat)), some v8]) (i := 8) rfl hv8) (ed_tup (ds := []) kn7 ea_nil (by decide)) (ok_shaped okss) (by decide +kernel))
    refine tst H7 (Ex.refl H7) _ fun H8 x8 => ?_
    rw [tup_nil]
    by_cases hz : ss = []
    · rw [decide_eq_true hz, if_pos rfl]
      have egy := eg_tup (P := fun d => ∃ y, d = .tuple [y] ∧ SayQ hs dw.2 dw.1 y) (ega_cons (k := 0) hab2 (eg_sayX (K := K) (n := 0) (Po := SayQ) (E := E0) (σ := [some (.ref a), some (.int (j : Nat)), some (.ref pn), some (.ref hd), some (.str p.1), some (.ref F), some (.int (dw.1 : Nat)), some (.int (dw.2 : Nat)), some v8]) (i := 0) (j := 3) (i2 := 6) (i3 := 7) dwb.1 dwb.2.1 dwb.2.2.1 dwb.2.2.2 hab2 rfl rfl rfl rfl ((hat6.upB hda x7).up x8) hda C) ega_nil) (by
        rintro l ⟨d1, r1', rfl, p1, rfl⟩
        exact ⟨by rw [hsl]; show 1 ≤ 16777216; decide, d1, rfl, p1⟩)
      refine egy H8 (ExB.refl a H8) (kn7.up x8) (b7.ex x8) _ fun v9 d9 H9 x9 b9 hv9 ⟨y9, e9, p9⟩ => ?_
      subst e9
      have xx : ExB a H6 H9 := (x7.trans (exb x8)).trans x9
      refine g_app (K := K) (b := F :: b) (j := 5) rfl (hFup xx) lvs (tpl v9 [y9] H9 xx (x9.kn (kn7.up x8) b9) hv9) fun y H10 x10 hy => ?_
      exact ⟨⟨_, _, _, _, rfl⟩, fin y [y9] H10 (xx.trans (exb x10)) (b9.ex x10) hy (by simp) (by show 1 ≤ 6; decide) fun s' h' => by rw [List.mem_singleton.mp h']; exact p9⟩
    · rw [decide_eq_false hz, if_neg Bool.false_ne_true]
      refine gnext ?_
      have xx : ExB a H6 H8 := x7.trans (exb x8)
      refine g_app (K := K) (b := F :: b) (j := 5) rfl (hFup xx) lvs (tpl v8 ss H8 xx (kn7.up x8) (Dq.up hv8 x8)) fun y H10 x10 hy => ?_
      exact ⟨⟨_, _, _, _, rfl⟩, fin y ss H10 (xx.trans (exb x10)) ((b7.ex x8).ex x10) hy hz l6 hss⟩
  · intro σ' H6 ⟨⟨y4, y6, y7, y8, eσ⟩, hg6, bg6, vs, ds, hF6, hds, lds, hR⟩
    subst eσ
    refine ⟨.ref F, rfl, F, vs, rfl, .inl (.inl hF6), fun l o hl ho => ?_⟩
    have kn6 : Kn b H6 := fun c hc z => by
      by_cases e : c = a
      · subst e
        exact bg6.there z
      · have hcF : c ≠ F := fun e => Fb (e ▸ hc)
        cases y : H5 c with
        | none => exact (kn4.up x5) c hc y
        | some o => rw [hg6 c o e hcF y] at z; cases z
    refine q _ (.tuple ds) _ (fun c o hc z => ?_) (bg6.ex (Ex.new hl)) (dq_newT kn6 hl ho (dps_ex show_ex _ _ hds)) ⟨hs, C, fun p hp => nmem _ (by rw [← hfst]; exact List.mem_map.mpr ⟨p, hp, rfl⟩), ds, rfl, ?_, hR⟩
    · have z1 : H1 c = some o := x1 c o hc z
      have z2 := x2 _ _ z1
      have c1 : c ≠ hd := fun e => by rw [e, hhd] at z2; cases z2
      have z4 := hg4 c o hc c1 (x3 _ _ z2)
      have c2 : c ≠ F := fun e => by rw [e, hF] at z4; cases z4
      exact Ex.new hl _ _ (hg6 c o hc c2 (x5 _ _ z4))
    · rw [List.length_map] at lds
      omega
end
end Wr

set_option Elab.async false
set_option linter.all false
set_option maxRecDepth 100000
set_option maxHeartbeats 4000000
namespace Wr
open PySem PySem.Spec PyProof.Rows L2 Evl
structure Blt2 (mg : Str → Option Value) : Prop where
  abs : mg "abs" = none
  max : mg "max" = none
  min : mg "min" = none
  repr : mg "repr" = none
abbrev s_bag : Stmt := topS 26
abbrev NB : List Str := ["_law_script", "_law_at", "_law_cell", "_law_mix", "_law_k"]
theorem sc_bag : FnScope NB ["_law_script", "_law_at"] (defScope s_bag) := ⟨rfl, rfl, rfl, by decide +kernel, rfl, by decide +kernel, by decide +kernel⟩
/-- a new bag, out of the script and a place -/
def spBag (K : PySem.W.Frag) : Sp := fun vs H Q _ => ∃ (b : List Addr) (ns : List Int) (k : Int), Kn b H ∧ DqAll K b H vs [.list (ns.map PyData.int), .int k] ∧ 0 ≤ k ∧ k < 100 ∧ ns.length ≤ 1000 ∧ ∀ p H', H p = none → Ex H H' → Bag p 0 H' → Q (.ref p) H'
def rAbs : List V → Hp → VK → Prop := fun xs H Q => ∃ i, xs = [.int i] ∧ Q (.int (if i < 0 then -i else i)) H
theorem call_absB {X : Cx} : CallR X (.builtin "abs") rAbs := call_abs
def rMax2 : List V → Hp → VK → Prop := fun xs H Q => ∃ i j, xs = [.int i, .int j] ∧ Q (.int (if j > i then j else i)) H
def rMin2 : List V → Hp → VK → Prop := fun xs H Q => ∃ i j, xs = [.int i, .int j] ∧ Q (.int (if j < i then j else i)) H
theorem cr_max2 {X : Cx} (hc : X.calm = true) : CallR X (.builtin "max") rMax2 := call_max2 hc
theorem cr_min2 {X : Cx} (hc : X.calm = true) : CallR X (.builtin "min") rMin2 := call_min2 hc
section
variable {K : PySem.W.Frag} {b : List Addr} {σ : L2.St} {H H' : Hp} {ta tb te : TE} {t : TA} {ds es : List PyData} {D : Ends} {ts : TS}
theorem ed_abs {i : Int} (ha : ED K b ta σ H (.int i)) : ED K b (tCB rAbs (tCons ta tNil)) σ H (.int (if i < 0 then -i else i)) := fun H1 x1 Q q =>
  ha H1 x1 _ fun v H2 x2 hv => ⟨i, by rw [dq_int hv], q _ H2 x2 (.int _)⟩
theorem ed_max2 {i j : Int} (ha : ED K b ta σ H (.int i)) (hb : ED K b tb σ H (.int j)) : ED K b (tCB rMax2 (tCons ta (tCons tb tNil))) σ H (.int (if j > i then j else i)) := fun H1 x1 Q q =>
  ha H1 x1 _ fun v H2 x2 hv => hb H2 (x1.trans x2) _ fun u H3 x3 hu => ⟨i, j, by rw [dq_int hv, dq_int hu], q _ H3 (x2.trans x3) (.int _)⟩
theorem ed_min2 {i j : Int} (ha : ED K b ta σ H (.int i)) (hb : ED K b tb σ H (.int j)) : ED K b (tCB rMin2 (tCons ta (tCons tb tNil))) σ H (.int (if j < i then j else i)) := fun H1 x1 Q q =>
  ha H1 x1 _ fun v H2 x2 hv => hb H2 (x1.trans x2) _ fun u H3 x3 hu => ⟨i, j, by rw [dq_int hv, dq_int hu], q _ H3 (x2.trans x3) (.int _)⟩
theorem g_forR {D : Ends} {ts tbd : TS} {g : TG} {N : Int} (Pv : Nat → L2.St → Hp → Prop) (h : ED K b ta σ H (.int N)) (n0 : -(2 ^ 62) ≤ N) (n1 : N < 2 ^ 62) (h0 : ∀ H1, Ex H H1 → Pv 0 σ H1)
    (hs : ∀ i σ H, i < N.toNat → Pv i σ H → g (.int (0 + i)) σ H fun σ2 H2 => tbd { D with nx := Pv (i + 1), ct := Pv (i + 1), bk := ts D } σ2 H2) (hd : ∀ σ H, Pv N.toNat σ H → ts D σ H) : tSeq (tFor (iRng1 (tCons ta tNil)) g tbd) ts D σ H :=
  h H (Ex.refl H) _ fun v H1 x1 hv => by
    have e := dq_int hv
    subst e
    exact ⟨N, rfl, n0, n1, for_range Pv (h0 H1 x1) hs hd⟩
/-- if ..: x = .., else as it was -/
theorem g_ifSet {tt : TT} {i : Nat} {c : Bool} {d : PyData} {old : V} (hc : EvT tt σ H c) (h1 : c = true → ∀ H1, Ex H H1 → ED K b te σ H1 d) (hσ : σ.set i (some old) = σ) (k : ∀ v H', Ex H H' → (c = true → Dq K b H' v d) → (c = false → v = old) → ts D (σ.set i (some v)) H') : tSeq (tIfS tt (tAsg te (gName i)) tNext) ts D σ H :=
  hc H (Ex.refl H) _ fun H1 x1 => by
    cases c with
    | true =>
      rw [if_pos rfl]
      exact h1 rfl H1 x1 H1 (Ex.refl H1) _ fun v H2 x2 hv => k v H2 (x1.trans x2) (fun _ => hv) fun e => nomatch e
    | false =>
      rw [if_neg Bool.false_ne_true]
      have := k old H1 x1 (fun e => nomatch e) fun _ => rfl
      rw [hσ] at this
      exact this
theorem g_setN {i : Nat} {d : PyData} (h : ED K b te σ H d) (k : ∀ v H', Ex H H' → Dq K b H' v d → D.nx (σ.set i (some v)) H') : tAsg te (gName i) D σ H := h H (Ex.refl H) _ fun v H' x hv => k v H' x hv
end
section
variable {P : Program} {w : World} {K : PySem.W.Frag} {mg : Str → Option Value} {base : Heap} {f g g2 : Addr} {fd gd gd2 : FuncData}
theorem ok_bag (D : Def K mg "_law_bag" s_bag ["_law_script", "_law_at"] f fd) (B : Blt mg) (B2 : Blt2 mg) : FnOk P w K mg base CX0 1 f fd ["_law_script", "_law_at"] (spBag K) := by
  refine D.F.ok sc_bag (fun vs H Q E ⟨b, ns, k, _, hd, _⟩ => by rw [dps_len hd]; rfl) (fun cdv A outer s H vs Q E hr h => ?_)
  obtain ⟨b, ns, k, kn, hd, k0, k1, hl, q⟩ := h
  obtain ⟨v, v2, d, d2, rfl, ed, h1, h2⟩ := two_of hd rfl
  cases ed
  have e2 := dq_int h2
  subst e2
  refine ⟨_, pss_cons (ps_set (i := 2) sc_bag.nd rfl (Or.inl rfl) pe_int)
    (pss_cons (ps_if (pt_cmpR op_lt (pv 1) (pe_callB call_lenD1 rfl B.len bb_len (pa_cons (pv 0) pa_nil)) (nomark _)) (pss_one (ps_set (i := 2) sc_bag.nd rfl (Or.inl rfl) (pe_callB call_absB rfl B2.abs bb_abs (pa_cons (pe_ix ix_list (pv 0) (pv 1) (fun _ _ => rfl)) pa_nil)))) pss_nil)
    (pss_cons (ps_set (i := 3) sc_bag.nd rfl (Or.inl rfl) (pe_op op_mod (pe_op op_powW (pe_op op_add (pe_op op_add (pe_op op_mod (pv 2) pe_int) (pe_op op_mul pe_int (pv 1))) pe_int) pe_int) pe_int))
    (pss_cons (ps_for PassesOwn.never rfl (pi_range1 rfl B.range (pa_cons (pe_callB (cr_min2 rfl) rfl B2.min bb_min (pa_cons (pe_callB call_lenD1 rfl B.len bb_len (pa_cons (pv 0) pa_nil)) (pa_cons pe_int pa_nil))) pa_nil)) (pg_name (i := 4) sc_bag.nd rfl (Or.inl rfl))
      (pss_one (ps_set (i := 3) sc_bag.nd rfl (Or.inl rfl) (pe_op op_mod (pe_op op_add (pe_op op_add (pe_op op_mul (pv 3) pe_int) (pe_op op_mul (pe_op op_mod (pe_ix ix_list (pv 0) (pv 4) (fun _ _ => rfl)) pe_int) (pe_op op_add (pv 4) pe_int))) (pv 4)) pe_int))))
    (pss_cons (ps_if (pt_cmpR op_lt (pv 2) (pe_op op_pow pe_int pe_int) (nomark _)) (pss_one (ps_set (i := 2) sc_bag.nd rfl (Or.inl rfl) pe_int)) pss_nil)
    (pss_one (ps_ret (pe_lst (pa_cons (pv 2) (pa_cons (pv 3) pa_nil))))))))), ?_⟩
  have hsl : sizeLine = 16777216 := sizeLine_eq
  have hD : ∀ {H'}, Ex H H' → Dq K b H' v (.list (ns.map .int)) := fun {H'} x => Dq.up h1 x
  have ll : (lenD (.list (ns.map PyData.int)) : Nat) = ns.length := List.length_map ..
  have fin : ∀ (c m : Int) (y4 : Option V) (H1 : Hp), Ex H H1 → 0 ≤ c → 0 ≤ m → m < 2147483648 → tRet (tLst (tCons (tVar 2) (tCons (tVar 3) tNil))) { nx := fun _ H' => Q .non H', rt := Q } [some v, some (.int k), some (.int c), some (.int m), y4] H1 := fun c m y4 H1 x1 c0 m0 m1 => by
    refine ⟨.int c, rfl, .int m, rfl, by show 2 ≤ sizeLine; decide, fun p hp => q p _ ?_ (x1.trans (Ex.new hp)) ⟨c, m, upd_same, c0, m0, m1⟩⟩
    cases z : H p with
    | none => rfl
    | some o => rw [x1 _ _ z] at hp; cases hp
  have pw : ∀ {σ'} {H'}, ED K b (tOp (rI CPow fun i j => .int (i ^ j.toNat)) (tC (.int 10)) (tC (.int 18))) σ' H' (.int 1000000000000000000) := fun {_ _} => ed_I ed_int ed_int ⟨by decide, by decide, by decide⟩ fun _ => .int _
  refine g_set (ed_int (K := K) (b := b) (i := 0)) fun v0 H0 x0 hv0 => ?_
  have e0 := dq_int hv0
  subst e0
  have lt := et_t (ed_lt (K := K) (b := b) (ed_var (σ := [some v, some (.int k), some (.int 0), none, none]) (i := 1) (d := .int k) rfl (.int k)) (ed_len (ed_var (i := 0) rfl (hD x0)) (.inr (.inl rfl)) fun y e => by cases e))
  rw [ll] at lt
  refine g_ifSet (K := K) (b := b) (i := 2) (old := .int 0) (d := .int (if ns.getD k.toNat 0 < 0 then -(ns.getD k.toNat 0) else ns.getD k.toNat 0)) lt (fun hc H1 x1 => ed_abs (ed_ixL (ed_var (i := 0) rfl (hD (x0.trans x1))) (ed_var (i := 1) (d := .int k) rfl (.int k)) ?_)) rfl fun vc H1 x1 hyes hno => ?_
  · have hk := of_decide_eq_true hc
    have ek : k = ((k.toNat : Nat) : Int) := (Int.toNat_of_nonneg k0).symm
    rw [ek]
    refine atI_nat ?_
    rw [List.getElem?_map, List.getElem?_eq_getElem (by omega)]
    simp only [Int.toNat_natCast, List.getD_eq_getElem?_getD, List.getElem?_eq_getElem (show k.toNat < ns.length by omega), Option.getD_some, Option.map_some]
  obtain ⟨c, ec, c0⟩ : ∃ c : Int, vc = .int c ∧ 0 ≤ c := by
    cases hz : decide (k < ((ns.length : Nat) : Int)) with
    | true => exact ⟨_, dq_int (hyes hz), by split <;> omega⟩
    | false => exact ⟨0, hno hz, by decide⟩
  subst ec
  have xx1 := x0.trans x1
  have m0 := Int.emod_nonneg c (show (2147483629 : Int) ≠ 0 by decide)
  have m1 := Int.emod_lt_of_pos c (show (0 : Int) < 2147483629 by decide)
  refine g_set (ed_mod (K := K) (b := b) (ed_powW (ed_add (ed_add (ed_mod (ed_var (σ := [some v, some (.int k), some (.int c), none, none]) (i := 2) (d := .int c) rfl (.int c)) (ed_int (i := 2147483629)) (by decide)) (ed_mul (ed_int (i := 104729)) (ed_var (i := 1) (d := .int k) rfl (.int k)) (.inl (by decide)))) (ed_int (i := 17))) (ed_int (i := 5)) ⟨by decide, by decide, Nat.lt_of_lt_of_le (show (c % 2147483629 + 104729 * k + 17).natAbs < 2 ^ 40 by omega) (by decide)⟩) (ed_int (i := 2147483647)) (by decide)) fun vm H2 x2 hvm => ?_
  have em := dq_int hvm
  subst em
  have q0 := Int.emod_nonneg ((c % 2147483629 + 104729 * k + 17) ^ (5 : Int).toNat) (show (2147483647 : Int) ≠ 0 by decide)
  have q1 := Int.emod_lt_of_pos ((c % 2147483629 + 104729 * k + 17) ^ (5 : Int).toNat) (show (0 : Int) < 2147483647 by decide)
  generalize (c % 2147483629 + 104729 * k + 17) ^ (5 : Int).toNat % 2147483647 = mx at q0 q1
  have xx2 := xx1.trans x2
  have cnt := ed_min2 (K := K) (b := b) (ed_len (ed_var (σ := [some v, some (.int k), some (.int c), some (.int mx), none]) (i := 0) rfl (hD xx2)) (.inr (.inl rfl)) fun y e => by cases e) (ed_int (i := 60))
  rw [ll] at cnt
  have cb : 0 ≤ (if (60 : Int) < ((ns.length : Nat) : Int) then (60 : Int) else ((ns.length : Nat) : Int)) ∧ (if (60 : Int) < ((ns.length : Nat) : Int) then (60 : Int) else ((ns.length : Nat) : Int)) ≤ 60 ∧ (if (60 : Int) < ((ns.length : Nat) : Int) then (60 : Int) else ((ns.length : Nat) : Int)) ≤ ns.length := by
    split <;> omega
  generalize (if (60 : Int) < ((ns.length : Nat) : Int) then (60 : Int) else ((ns.length : Nat) : Int)) = N at cnt cb
  refine g_forR (Pv := fun i σ' H' => (∃ (m : Int) (y4 : Option V), σ' = [some v, some (.int k), some (.int c), some (.int m), y4] ∧ 0 ≤ m ∧ m < 2147483648) ∧ Ex H H') cnt (by omega) (by omega) (fun H3 x3 => ⟨⟨mx, none, rfl, q0, by omega⟩, xx2.trans x3⟩) ?_ ?_
  · intro i σ' H' hi ⟨⟨m, y4, eσ, h0, h1'⟩, xH⟩
    subst eσ
    have hi' : i < ns.length := by omega
    have at_ : atI (ns.map PyData.int) (0 + (i : Int)) = some (.int ns[i]) := by
      rw [show (0 + (i : Int)) = ((i : Nat) : Int) from Int.zero_add _]
      refine atI_nat ?_
      rw [List.getElem?_map, List.getElem?_eq_getElem hi']
      rfl
    refine g_setN (ed_mod (K := K) (b := b) (ed_add (ed_add (ed_mul (ed_var (σ := [some v, some (.int k), some (.int c), some (.int m), some (.int (0 + (i : Int)))]) (i := 3) (d := .int m) rfl (.int m)) (ed_int (i := 48271)) (.inr ⟨by decide, by decide⟩)) (ed_mul (ed_mod (ed_ixL (ed_var (i := 0) rfl (hD xH)) (ed_var (i := 4) (d := .int (0 + (i : Int))) rfl (.int _)) at_) (ed_int (i := 2147483587)) (by decide)) (ed_add (ed_var (i := 4) (d := .int (0 + (i : Int))) rfl (.int _)) (ed_int (i := 3))) (.inr ⟨by omega, by omega⟩))) (ed_var (i := 4) (d := .int (0 + (i : Int))) rfl (.int _))) (ed_int (i := 2147483629)) (by decide)) fun vm H3 x3 hvm => ?_
    have em := dq_int hvm
    subst em
    exact ⟨⟨_, _, rfl, Int.emod_nonneg _ (by decide), Int.lt_trans (Int.emod_lt_of_pos _ (by decide)) (by decide)⟩, xH.trans x3⟩
  · intro σ' H' ⟨⟨m, y4, eσ, h0, h1'⟩, xH⟩
    subst eσ
    refine g_ifSet (K := K) (b := b) (i := 2) (old := .int c) (d := .int 0) (et_t (ed_lt (K := K) (b := b) (ed_var (i := 2) (d := .int c) rfl (.int c)) pw)) (fun _ _ _ => ed_int) rfl fun vc H3 x3 hyes hno => ?_
    obtain ⟨c', ec, c0'⟩ : ∃ c' : Int, vc = .int c' ∧ 0 ≤ c' := by
      cases hz : decide (c < 1000000000000000000) with
      | true => exact ⟨_, dq_int (hyes hz), by decide⟩
      | false => exact ⟨c, hno hz, c0⟩
    subst ec
    exact fin c' m y4 H3 (xH.trans x3) c0' h0 h1'
end
end Wr

set_option Elab.async false
set_option linter.all false
set_option maxRecDepth 100000
set_option maxHeartbeats 4000000
namespace Wr
open PySem PySem.Spec PyProof.Rows L2 Evl
/-! ### lists that are new -/
def EL (K : PySem.W.Frag) (b : List Addr) (te : TE) (σ : L2.St) (H : Hp) (ds : List PyData) : Prop := ∀ H1, Ex H H1 → ∀ Q : VK, (∀ p vs H2, Ex H1 H2 → H1 p = none → H2 p = some (.lst vs) → DqAll K b H2 vs ds → Q (.ref p) H2) → te σ H1 Q
/-- a def that tells a new list -/
def spR (K : PySem.W.Frag) (pre : List PyData → Prop) (f : List PyData → List PyData) : Sp := fun vs H Q _ => ∃ b ds, Kn b H ∧ DqAll K b H vs ds ∧ pre ds ∧ ∀ q us H', H q = none → Ex H H' → H' q = some (.lst us) → DqAll K b H' us (f ds) → Q (.ref q) H'
theorem spR_len {K : PySem.W.Frag} {n : Nat} {pre : List PyData → Prop} {f : List PyData → List PyData} (hl : ∀ ds, pre ds → ds.length = n) {vs : List V} {H : Hp} {Q : VK} {E : XK} (h : spR K pre f vs H Q E) : vs.length = n := by
  obtain ⟨b, ds, _, hd, hp, _⟩ := h
  rw [dps_len hd, hl ds hp]
section
variable {K : PySem.W.Frag} {b : List Addr} {σ : L2.St} {H H' : Hp} {ta tb te : TE} {t : TA} {tt : TT} {ts t1 : TS} {ds es : List PyData} {d : PyData} {D : Ends}
theorem EL.ed (kn : Kn b H) (h : EL K b te σ H ds) : ED K b te σ H (.list ds) := fun H1 x1 Q q => h H1 x1 Q fun p vs H2 x2 hp h2 hv => q _ H2 x2 (.lst (.inl (.inl (by rw [hid_ne ((kn.up x1).new hp)]; exact h2))) hv)
theorem EL.to (h : EL K b te σ H ds) (e : ds = es) : EL K b te σ H es := e ▸ h
theorem el_call {pre : List PyData → Prop} {f : List PyData → List PyData} {E : XK} (kn : Kn b H) (ha : EA K b t σ H ds) (hp : pre ds) : EL K b (tCall (spR K pre f) [] E t) σ H (f ds) := fun H1 x1 Q q =>
  ha H1 x1 _ fun vs H2 x2 hvs => ⟨b, ds, kn.up (x1.trans x2), by rw [List.append_nil]; exact hvs, hp, fun p us H3 hp3 x3 h3 hu => q p us H3 (x2.trans x3) (by
    cases z : H1 p with
    | none => rfl
    | some o => rw [x2 _ _ z] at hp3; cases hp3) h3 hu⟩
theorem ea_star (ha : ED K b ta σ H (.list ds)) (hr : EA K b t σ H es) : EA K b (StX.tStar K ta t) σ H (ds ++ es) := fun H1 x1 Q q =>
  ha H1 x1 _ fun v H2 x2 hv => by
    cases hv with
    | @lst p xs _ g1 g2 => exact ⟨p, xs, rfl, .inr (ex_l hid_le g1), hr H2 (x1.trans x2) _ fun ys H3 x3 hy => q _ H3 (x2.trans x3) (dps_app (DqAll.up g2 x3) hy)⟩
theorem EA.to (h : EA K b t σ H ds) (e : ds = es) : EA K b t σ H es := e ▸ h
theorem g_retL (ha : EA K b t σ H ds) (hl : ds.length ≤ sizeLine) (k : ∀ q us H', H q = none → Ex H H' → H' q = some (.lst us) → DqAll K b H' us ds → D.rt (.ref q) H') : tRet (tLst t) D σ H :=
  ha H (Ex.refl H) _ fun vs H1 x1 hv => ⟨by rw [dps_len hv]; exact hl, fun p hp => k p vs _ (by
    cases z : H p with
    | none => rfl
    | some o => rw [x1 _ _ z] at hp; cases hp) (x1.trans (Ex.new hp)) upd_same (DqAll.up hv (Ex.new hp))⟩
theorem g_ifF (h : EvT tt σ H false) (k : ∀ H1, Ex H H1 → ts D σ H1) : tSeq (tIfS tt t1 tNext) ts D σ H := h H (Ex.refl H) _ fun H1 x1 => by
  rw [if_neg Bool.false_ne_true]
  exact k H1 x1
theorem g_ifT (h : EvT tt σ H true) (k : ∀ H1, Ex H H1 → t1 { D with nx := ts D } σ H1) : tSeq (tIfS tt t1 tNext) ts D σ H := h H (Ex.refl H) _ fun H1 x1 => by
  rw [if_pos rfl]
  exact k H1 x1
/-- rows.extend(..) -/
theorem g_ext {j : Nat} {F : Addr} {vs : List V} (hσ : σ[j]? = some (some (.ref F))) (hF : H F = some (.lst vs)) (hl : vs.length + ds.length ≤ 10000000) (he : EL K b te σ H ds) (kk : ∀ us H', Ex H H' → DqAll K b H' us ds → D.nx σ (upd H' F (.lst (vs ++ us)))) : tDrop (tBM K "list" rExtend (tVar j) (tCons te tNil)) D σ H :=
  ⟨.ref F, hσ, .inl ⟨rfl, _, .inl (.inl hF)⟩, he H (Ex.refl H) _ fun p us H' x hp h' hu => ⟨F, p, vs, us, rfl, rfl, x _ _ hF, h', by rw [dps_len hu, sizeLine_eq]; omega, kk us H' x hu⟩⟩
end
theorem strEq (x y : Str) : PyData.eqv (.str x) (.str y) = decide (x = y) := by
  simp only [PyData.eqv]
  rfl
/-! ### the rows of a value -/
def rw2 (w : Str) (d : PyData) : PyData := .tuple [.str w, d]
def rw1 (w : Str) : PyData := .tuple [.str w]
def valR : Nat → PyData → List PyData
  | 0, _ => []
  | n + 1, d => match d with
    | .tuple [.str _, .str x] => [rw2 "get" (.str x)]
    | .tuple [.str _, .str x, .tuple vs] => vs.flatMap (valR n) ++ [rw2 "call" (.str x)]
    | .tuple [.str o, c, e] => (valR n c ++ valR n e) ++ [rw1 o]
    | e => [rw2 "put" e]
theorem ValP.nostr {hs : Hds} {n : Nat} {d : PyData} (h : ValP hs n d) (x : Str) : d ≠ .str x := by
  cases h with
  | num p =>
    intro e
    rw [e] at p
    cases p
  | name _ => intro e; cases e
  | op _ _ _ => intro e; cases e
  | call _ _ => intro e; cases e
theorem valR_num {n : Nat} {d : PyData} (h : worthD d = true) : valR (n + 1) d = [rw2 "put" d] := by
  unfold worthD at h
  split at h
  · rfl
  · cases h
theorem valR_op {n : Nat} {o : Str} {c e : PyData} (hc : ∀ x, c ≠ .str x) : valR (n + 1) (.tuple [.str o, c, e]) = (valR n c ++ valR n e) ++ [rw1 o] := by
  cases c with
  | str x => exact absurd rfl (hc x)
  | none => rfl
  | bool b => rfl
  | int i => rfl
  | list l => rfl
  | tuple l => rfl
  | dict l => rfl
theorem flat_len {α : Type} {f : α → List PyData} {m : Nat} : ∀ {es : List α}, (∀ e ∈ es, (f e).length ≤ m) → (es.flatMap f).length ≤ es.length * m
  | [], _ => by simp
  | e :: r, h => by
    rw [List.flatMap_cons, List.length_append, List.length_cons, Nat.add_mul]
    have := h e List.mem_cons_self
    have := flat_len (es := r) fun e' he' => h e' (List.mem_cons_of_mem _ he')
    omega
/-- how many rows at most -/
def valM : Nat → Nat
  | 0 => 0
  | n + 1 => 3 * valM n + 2
theorem valR_len {hs : Hds} (C : HdC hs) {n : Nat} {d : PyData} (h : ValP hs n d) : (valR n d).length ≤ valM n := by
  induction h with
  | num p => rw [valR_num p]; show 1 ≤ _; unfold valM; omega
  | @name n x p => show 1 ≤ _; unfold valM; omega
  | @op n o c d p h1 _ i1 i2 =>
    rw [valR_op h1.nostr, List.length_append, List.length_append]
    unfold valM
    show _ + 1 ≤ _
    omega
  | @call n x ds p _ ih =>
    show (ds.flatMap (valR n) ++ [rw2 "call" (.str x)]).length ≤ _
    have h3 : ds.length ≤ 3 := C.le _ p
    have : ∀ es : List PyData, (∀ e ∈ es, (valR n e).length ≤ valM n) → (es.flatMap (valR n)).length ≤ es.length * valM n := fun es => by
      induction es with
      | nil => intro _; simp
      | cons e r ihr =>
        intro h
        rw [List.flatMap_cons, List.length_append, List.length_cons, Nat.add_mul]
        have := h e List.mem_cons_self
        have := ihr fun e' he' => h e' (List.mem_cons_of_mem _ he')
        omega
    have h4 := this ds ih
    have h5 : ds.length * valM n ≤ 3 * valM n := Nat.mul_le_mul_right _ h3
    rw [List.length_append]
    unfold valM
    show _ + 1 ≤ _
    omega
def VRpre (n : Nat) (ds : List PyData) : Prop := ∃ d hs, ds = [d] ∧ HdC hs ∧ ValP hs n d
abbrev spVR (K : PySem.W.Frag) (n : Nat) : Sp := spR K (VRpre n) fun ds => valR n (ds.headD .none)
abbrev s_vrows : Stmt := topS 24
abbrev NVr : List Str := ["value", "rows", "inner"]
theorem sc_vrows : FnScope NVr ["value"] (defScope s_vrows) := ⟨rfl, rfl, rfl, by decide +kernel, rfl, by decide +kernel, by decide +kernel⟩
theorem valM_le : ∀ {n m : Nat}, n ≤ m → valM n ≤ valM m
  | 0, _, _ => Nat.zero_le _
  | n + 1, 0, h => by omega
  | n + 1, m + 1, h => by
    have := valM_le (n := n) (m := m) (by omega)
    unfold valM
    omega
section
variable {P : Program} {w : World} {K : PySem.W.Frag} {mg : Str → Option Value} {base : Heap} {f g g2 : Addr} {fd gd gd2 : FuncData}
theorem ok_vrows (D : Def K mg "value_rows" s_vrows ["value"] f fd) (B : Blt mg) : ∀ n, n ≤ 6 → FnOk P w K mg base CX0 (n + 1) f fd ["value"] (spVR K n)
  | 0, _ => ⟨fun _ _ _ _ ⟨_, _, _, _, ⟨_, _, _, _, h⟩, _⟩ => (by cases h), fun _ _ _ _ _ _ _ _ _ _ _ _ _ ⟨_, _, _, _, ⟨_, _, _, _, h⟩, _⟩ => (by cases h)⟩
  | n + 1, hn6 => by
    have IH := ok_vrows D B n (by omega)
    refine D.F.ok sc_vrows (fun vs H Q E h => spR_len (fun ds ⟨d, _, e, _⟩ => by rw [e]; rfl) h) (fun cdv A outer s H vs Q E hr h => ?_)
    obtain ⟨b, ds, kn, hd, ⟨d, hs, rfl, C, hv⟩, q⟩ := h
    obtain ⟨v, d', rfl, ed, h1⟩ := one_of hd rfl
    cases ed
    refine ⟨_, pss_cons (ps_if (pt_not (pt_val (pe_callB call_isi rfl B.isi bb_isinstance (pa_cons (pv 0) (pa_cons (pe_tyN rfl B.tuple bt_tuple) pa_nil))))) (pss_one (ps_ret (pe_lst (pa_cons (pe_tupF (pa_cons pe_str (pa_cons (pv 0) pa_nil))) pa_nil)))) pss_nil)
      (pss_cons (ps_if (pt_cmpR (op_eqD (hu64 hr)) (pe_ix ix_tup (pv 0) pe_int (fun _ _ => rfl)) pe_str (nomark _)) (pss_one (ps_ret (pe_lst (pa_cons (pe_tupF (pa_cons pe_str (pa_cons (pe_ix ix_tup (pv 0) pe_int (fun _ _ => rfl)) pa_nil))) pa_nil)))) pss_nil)
      (pss_cons (ps_if (pt_cmpR (op_eqD (hu64 hr)) (pe_ix ix_tup (pv 0) pe_int (fun _ _ => rfl)) pe_str (nomark _)) (pss_cons (ps_set (i := 1) sc_vrows.nd rfl (Or.inl rfl) (pe_lst pa_nil))
        (pss_cons (ps_for PassesOwn.never rfl (pi_tup (pe_ix ix_tup (pv 0) pe_int (fun _ _ => rfl))) (pg_name (i := 2) sc_vrows.nd rfl (Or.inl rfl)) (pss_one (ps_expr (pe_bm PySem.F.plainAttrs_list PySem.F.slot_list_extend PySem.F.type_list_extend mt_extend (pv 1) (pa_cons (pe_cd D IH hr (pa_cons (pv 2) pa_nil)) pa_nil)))))
        (pss_one (ps_ret (pe_lst (StX.pa_star (pv 1) (pa_cons (pe_tupF (pa_cons pe_str (pa_cons (pe_ix ix_tup (pv 0) pe_int (fun _ _ => rfl)) pa_nil))) pa_nil))))))) pss_nil)
      (pss_one (ps_ret (pe_lst (StX.pa_star (pe_cd D IH hr (pa_cons (pe_ix ix_tup (pv 0) pe_int (fun _ _ => rfl)) pa_nil)) (StX.pa_star (pe_cd D IH hr (pa_cons (pe_ix ix_tup (pv 0) pe_int (fun _ _ => rfl)) pa_nil)) (pa_cons (pe_tupF (pa_cons (pe_ix ix_tup (pv 0) pe_int (fun _ _ => rfl)) pa_nil)) pa_nil)))))))), ?_⟩
    have hsl : sizeLine = 16777216 := sizeLine_eq
    have hM : valM (n + 1) ≤ 2000 := Nat.le_trans (valM_le hn6) (by decide)
    have lenb := valR_len C hv
    have q : ∀ q0 us H', H q0 = none → Ex H H' → H' q0 = some (.lst us) → DqAll K b H' us (valR (n + 1) d) → Q (.ref q0) H' := q
    have fr : ∀ {c : Addr} {H' : Hp}, Ex H H' → H' c = none → H c = none := fun {c H'} x z => by
      cases y : H c with
      | none => rfl
      | some o => rw [x _ _ y] at z; cases z
    have is := et_not (et_b (ed_isi (K := K) (b := b) (T := "tuple") (.inr (.inr (.inr (.inl rfl)))) (ed_var (σ := [some v, none, none]) (i := 0) rfl h1)))
    have shw : ∀ {x : Str}, (PyData.strOk x = true ∧ x.length ≤ 8) → SeqAt.shaped (.str x) = true := fun h => sh_str h.1
    have hd0 : ∀ {x : Str} {es : List PyData} {H' : Hp}, d = .tuple (.str x :: es) → Ex H H' → ED K b (tOp (rIxT K) (tVar 0) (tC (.int 0))) [some v, none, none] H' (.str x) := fun {x es H'} e x' => ed_ixT (ds := .str x :: es) (ed_var (i := 0) rfl (by rw [← e]; exact Dq.up h1 x')) ed_int (atI_nat (j := 0) rfl)
    have tst : ∀ {x y : Str} {es : List PyData} {H' : Hp}, d = .tuple (.str x :: es) → (PyData.strOk x = true ∧ x.length ≤ 8) → (PyData.strOk y = true ∧ y.length ≤ 8) → Ex H H' → EvT (tTest (tOp (rEqD K) (tOp (rIxT K) (tVar 0) (tC (.int 0))) (tC (.str y)))) [some v, none, none] H' (decide (x = y)) := fun {x y es H'} e hx hy x' => by
      have := et_t (ed_eq (hd0 e x') (ed_str (x := y)) (shw hx) (shw hy))
      rw [strEq] at this
      exact this
    have wd : ∀ {x : Str}, (PyData.strOk x && decide (x.length ≤ 8)) = true → PyData.strOk x = true ∧ x.length ≤ 8 := fun {x} h => by
      rw [Bool.and_eq_true] at h
      exact ⟨h.1, of_decide_eq_true h.2⟩
    cases hv with
    | num p =>
      have e : isD "tuple" d = false := by
        unfold worthD at p
        split at p
        · rfl
        · cases p
      rw [e] at is
      refine g_ifT is fun H1 x1 => ?_
      refine g_retL (K := K) (b := b) (ea_cons (ed_tup (kn.up x1) (ea_cons ed_str (ea_cons (ed_var (i := 0) rfl (Dq.up h1 x1)) ea_nil)) (by rw [hsl]; show 2 ≤ 16777216; decide)) ea_nil) (by rw [hsl]; show 1 ≤ 16777216; decide) fun q0 us H2 hq x2 h2 hu => q q0 us H2 (fr x1 hq) (x1.trans x2) h2 ?_
      rw [valR_num p]
      exact hu
    | @name _ x p =>
      have is : EvT _ _ _ false := is
      refine g_ifF is fun H1 x1 => ?_
      have t2 := tst (y := "name") rfl (wd (by decide +kernel)) (wd (by decide +kernel)) x1
      rw [decide_eq_true rfl] at t2
      refine g_ifT t2 fun H2 x2 => ?_
      have h12 := x1.trans x2
      refine g_retL (K := K) (b := b) (ea_cons (ed_tup (kn.up h12) (ea_cons ed_str (ea_cons (ed_ixT (z := .str x) (ed_var (i := 0) rfl (Dq.up h1 h12)) (ed_int (i := 1)) (atI_nat (j := 1) rfl)) ea_nil)) (by rw [hsl]; show 2 ≤ 16777216; decide)) ea_nil) (by rw [hsl]; show 1 ≤ 16777216; decide) fun q0 us H3 hq x3 h3 hu => q q0 us H3 (fr h12 hq) (h12.trans x3) h3 hu
    | @op _ o c e p hc he =>
      have is : EvT _ _ _ false := is
      refine g_ifF is fun H1 x1 => ?_
      have ho := ops_ok p
      have t2 := tst (y := "name") rfl ho (wd (by decide +kernel)) x1
      rw [decide_eq_false (fun e => by rw [e] at p; revert p; decide +kernel)] at t2
      refine g_ifF t2 fun H2 x2 => ?_
      have h12 := x1.trans x2
      have t3 := tst (y := "call") rfl ho (wd (by decide +kernel)) h12
      rw [decide_eq_false (fun e => by rw [e] at p; revert p; decide +kernel)] at t3
      refine g_ifF t3 fun H3 x3 => ?_
      have h13 := h12.trans x3
      have kn3 := kn.up h13
      have hv3 := Dq.up h1 h13
      have e1 := (el_call (K := K) (b := b) (pre := VRpre n) (f := fun ds => valR n (ds.headD .none)) (E := E0) kn3 (ea_cons (ed_ixT (σ := [some v, none, none]) (z := c) (ed_var (i := 0) rfl hv3) (ed_int (i := 1)) (atI_nat (j := 1) rfl)) ea_nil) ⟨c, hs, rfl, C, hc⟩).ed kn3
      have e2 := (el_call (K := K) (b := b) (pre := VRpre n) (f := fun ds => valR n (ds.headD .none)) (E := E0) kn3 (ea_cons (ed_ixT (σ := [some v, none, none]) (z := e) (ed_var (i := 0) rfl hv3) (ed_int (i := 2)) (atI_nat (j := 2) rfl)) ea_nil) ⟨e, hs, rfl, C, he⟩).ed kn3
      have e3 := ea_star e1 (ea_star e2 (ea_cons (ed_tup kn3 (ea_cons (hd0 rfl h13) ea_nil) (by rw [hsl]; show 1 ≤ 16777216; decide)) ea_nil))
      have eR : valR (n + 1) (.tuple [.str o, c, e]) = valR n c ++ (valR n e ++ [.tuple [.str o]]) := by
        rw [valR_op hc.nostr, List.append_assoc]
        rfl
      refine g_retL (K := K) (b := b) e3 ?_ fun q0 us H4 hq x4 h4 hu => q q0 us H4 (fr h13 hq) (h13.trans x4) h4 ?_
      · rw [eR] at lenb
        show (valR n c ++ (valR n e ++ [PyData.tuple [.str o]])).length ≤ _
        omega
      · rw [eR]
        exact hu
    | @call _ x vs p hvs =>
      have is : EvT _ _ _ false := is
      refine g_ifF is fun H1 x1 => ?_
      have t2 := tst (y := "name") rfl (wd (by decide +kernel)) (wd (by decide +kernel)) x1
      rw [decide_eq_false (by decide +kernel)] at t2
      refine g_ifF t2 fun H2 x2 => ?_
      have h12 := x1.trans x2
      have t3 := tst (y := "call") rfl (wd (by decide +kernel)) (wd (by decide +kernel)) h12
      rw [decide_eq_true rfl] at t3
      refine g_ifT t3 fun H3 x3 => ?_
      have h13 := h12.trans x3
      have kn3 := kn.up h13
      refine g_lst (K := K) (b := b) (ds := []) kn3 ea_nil (by decide) fun R vR H4 hR x4 h4 dR => ?_
      cases dR
      have h14 := h13.trans x4
      have hR0 : H R = none := fr h13 hR
      have Rb : R ∉ b := kn3.new hR
      have hvR : Dq K (R :: b) H4 v (.tuple [.str "call", .str x, .tuple vs]) := dp_ex (hid_ex h14) _ _ (Dq.hide h1 hR0)
      have hin := ed_ixT (K := K) (b := R :: b) (σ := [some v, some (.ref R), none]) (H := H4) (z := .tuple vs) (ed_var (i := 0) rfl hvR) (ed_int (i := 2)) (atI_nat (j := 2) rfl)
      refine hin H4 (Ex.refl H4) _ fun vt H5 x5 hvt => ?_
      cases hvt with
      | @tup at_ xs _ g1 gN g2 =>
      have lxs := dps_len g2
      have hgr : ∀ {H' : Hp}, (∀ c o, c ≠ R → H5 c = some o → H' c = some o) → Ex (hid (R :: b) H5) (hid (R :: b) H') := fun {H'} hg c o z => by
        obtain ⟨z1, z2⟩ := hid_some z
        rw [hid_ne z1]
        exact hg c o (fun e => z1 (by rw [e]; exact List.mem_cons_self)) z2
      have knR : ∀ {H' : Hp} {us : List V}, (∀ c o, c ≠ R → H5 c = some o → H' c = some o) → H' R = some (.lst us) → Kn (R :: b) H' := fun {H' us} hg hr' c hc z => by
        rcases List.mem_cons.mp hc with rfl | hc
        · rw [hr'] at z; cases z
        · have cR : c ≠ R := fun e => Rb (e ▸ hc)
          cases y : H5 c with
          | none => exact (kn.up (h14.trans x5)) c hc y
          | some o => rw [hg c o cR y] at z; cases z
      have h3v : vs.length ≤ 3 := C.le _ p
      refine ⟨at_, rfl, ⟨_, ex_t hid_le g1⟩, ?_⟩
      refine for_it walk_tup (fun i σ' H' => (∃ y2, σ' = [some v, some (.ref R), y2]) ∧ (∀ c o, c ≠ R → H5 c = some o → H' c = some o) ∧ ∃ us, H' R = some (.lst us) ∧ DqAll K (R :: b) H' us ((vs.take i).flatMap (valR n))) ⟨⟨none, rfl⟩, fun c o _ z => z, [], x5 _ _ h4, .nil⟩ (fun i σ' H' _ p => ex_t hid_le (ex_t (hgr p.2.1) g1)) ?_ ?_
      · intro i y σ' H' Hx hi ⟨⟨y2, eσ⟩, hg, us, hus, dus⟩ ⟨eH, hy⟩
        subst eσ eH
        obtain ⟨e, hei, de⟩ := dps_at g2 hy
        have hem := List.mem_of_getElem? hei
        have de' : Dq K (R :: b) Hx y e := dp_ex (hgr hg) _ _ de
        have knx := knR hg hus
        have el := el_call (K := K) (b := R :: b) (σ := [some v, some (.ref R), some y]) (pre := VRpre n) (f := fun ds => valR n (ds.headD .none)) (E := E0) knx (ea_cons (ed_var (i := 2) rfl de') ea_nil) ⟨e, hs, rfl, C, hvs e hem⟩
        have l1 := valR_len C (hvs e hem)
        have l2 : ((vs.take i).flatMap (valR n)).length ≤ (vs.take i).length * valM n := flat_len fun e' he' => valR_len C (hvs e' (List.mem_of_mem_take he'))
        have l3 : (vs.take i).length * valM n ≤ 3 * valM n := Nat.mul_le_mul_right _ (Nat.le_trans (List.length_take_le' i vs) h3v)
        have l4 : 3 * valM n + 2 ≤ 2000 := hM
        refine g_ext (K := K) (b := R :: b) (j := 1) rfl hus (by
          rw [dps_len dus]
          show _ + (valR n e).length ≤ _
          omega) el fun us' H6 x6 hu' => ⟨⟨_, rfl⟩, fun c o hc z => ?_, us ++ us', upd_same, ?_⟩
        · rw [upd_ne hc]
          exact x6 _ _ (hg c o hc z)
        · have et : (vs.take (i + 1)).flatMap (valR n) = (vs.take i).flatMap (valR n) ++ valR n e := by
            rw [List.take_add_one, hei, List.flatMap_append]
            simp
          rw [et]
          exact dps_ex put_ex _ _ (dps_app (DqAll.up dus x6) hu')
      · intro σ' H' ⟨⟨y2, eσ⟩, hg, us, hus, dus⟩
        subst eσ
        rw [lxs, List.take_of_length_le (Nat.le_refl _)] at dus
        have xx : Ex H H' := fun c o z => by
          have cR : c ≠ R := fun e => by rw [e, hR0] at z; cases z
          exact hg c o cR ((h14.trans x5) _ _ z)
        have knb := kn.up xx
        have dR : Dq K b H' (.ref R) (.list (vs.flatMap (valR n))) := .lst (.inl (.inl (by rw [hid_ne Rb]; exact hus))) (dps_ex show_ex _ _ dus)
        have ea := ea_star (K := K) (b := b) (ed_var (σ := [some v, some (.ref R), y2]) (i := 1) rfl dR) (ea_cons (ed_tup knb (ea_cons (ed_str (x := "call")) (ea_cons (ed_ixT (z := .str x) (ed_var (i := 0) rfl (Dq.up h1 xx)) (ed_int (i := 1)) (atI_nat (j := 1) rfl)) ea_nil)) (by rw [hsl]; show 2 ≤ 16777216; decide)) ea_nil)
        refine g_retL (K := K) (b := b) ea ?_ fun q0 us0 H6 hq x6 h6 hu => q q0 us0 H6 (fr xx hq) (xx.trans x6) h6 hu
        show (valR (n + 1) (.tuple [.str "call", .str x, .tuple vs])).length ≤ _
        omega
end
end Wr

set_option Elab.async false
set_option linter.all false
set_option maxRecDepth 100000
set_option maxHeartbeats 4000000
namespace Wr
open PySem PySem.Spec PyProof.Rows L2 Evl
/-! ### the rows of sayings -/
def saysR (f : Nat → PyData → List PyData) : Nat → List PyData → List PyData
  | _, [] => []
  | st, s :: ss => f st s ++ saysR f (st + (f st s).length) ss
theorem saysR_snoc (f : Nat → PyData → List PyData) (s : PyData) : ∀ (ss : List PyData) (st : Nat), saysR f st (ss ++ [s]) = saysR f st ss ++ f (st + (saysR f st ss).length) s
  | [], st => by simp [saysR]
  | x :: ss, st => by
    show f st x ++ saysR f (st + (f st x).length) (ss ++ [s]) = (f st x ++ saysR f (st + (f st x).length) ss) ++ _
    rw [saysR_snoc f s ss, List.append_assoc]
    show _ = f st x ++ (_ ++ f (st + (f st x ++ saysR f (st + (f st x).length) ss).length) s)
    rw [List.length_append, Nat.add_assoc]
def rowN (w : Str) (k : Nat) : PyData := .tuple [.str w, .int (k : Nat)]
def ifR (f : Nat → PyData → List PyData) (st : Nat) (asked ss ts : List PyData) : List PyData :=
  asked ++ (rowN "if" (st + asked.length + 1 + (saysR f (st + asked.length + 1) ts).length + 1) :: (saysR f (st + asked.length + 1) ts ++ (rowN "go" (st + asked.length + 1 + (saysR f (st + asked.length + 1) ts).length + 1 + (saysR f (st + asked.length + 1 + (saysR f (st + asked.length + 1) ts).length + 1) ss).length) :: saysR f (st + asked.length + 1 + (saysR f (st + asked.length + 1) ts).length + 1) ss)))
def whileR (f : Nat → PyData → List PyData) (st : Nat) (asked ss : List PyData) : List PyData :=
  asked ++ (rowN "if" (st + asked.length + 2) :: (rowN "go" (st + asked.length + 2 + (saysR f (st + asked.length + 2) ss).length + 1) :: (saysR f (st + asked.length + 2) ss ++ [rowN "go" st])))
def tryR (f : Nat → PyData → List PyData) (st : Nat) (ss : List PyData) (x : Str) (ts : List PyData) : List PyData :=
  rowN "try" (st + 1 + (saysR f (st + 1) ss).length + 2) :: (saysR f (st + 1) ss ++ (rw1 "done" :: (rowN "go" (st + 1 + (saysR f (st + 1) ss).length + 2 + 1 + (saysR f (st + 1 + (saysR f (st + 1) ss).length + 2 + 1) ts).length) :: (rw2 "set" (.str x) :: saysR f (st + 1 + (saysR f (st + 1) ss).length + 2 + 1) ts))))
def sayR (w : Nat) : Nat → Nat → PyData → List PyData
  | 0, _, _ => []
  | n + 1, st, d => match d with
    | .tuple [.str _, .str x, v] => valR w v ++ [rw2 "set" (.str x)]
    | .tuple [.str o, v] => valR w v ++ [rw1 o]
    | .tuple [.str _, .tuple ss, .str x, .tuple ts] => tryR (sayR w n) st ss x ts
    | .tuple [.str _, v, .tuple ss, .tuple ts] => ifR (sayR w n) st (valR w v) ss ts
    | .tuple [.str _, v, .tuple ss] => whileR (sayR w n) st (valR w v) ss
    | _ => []
theorem sayR_ite {w n st : Nat} {o : Str} {v : PyData} {ss ts : List PyData} : sayR w (n + 1) st (.tuple [.str o, v, .tuple ss, .tuple ts]) = ifR (sayR w n) st (valR w v) ss ts := by
  cases v <;> rfl
theorem sayR_whl {w n st : Nat} {o : Str} {v : PyData} {ss : List PyData} (h : ∀ x, v ≠ .str x) : sayR w (n + 1) st (.tuple [.str o, v, .tuple ss]) = whileR (sayR w n) st (valR w v) ss := by
  cases v with
  | str x => exact absurd rfl (h x)
  | none => rfl
  | bool b => rfl
  | int i => rfl
  | list l => rfl
  | tuple l => rfl
  | dict l => rfl
theorem sayR_one {w n st : Nat} {o : Str} {v : PyData} : sayR w (n + 1) st (.tuple [.str o, v]) = valR w v ++ [rw1 o] := by
  cases v <;> rfl
def sayM (w : Nat) : Nat → Nat
  | 0 => 0
  | n + 1 => valM w + 4 + 12 * sayM w n
theorem says_len {f : Nat → PyData → List PyData} {m : Nat} : ∀ {ss : List PyData} {st : Nat}, (∀ s ∈ ss, ∀ st, (f st s).length ≤ m) → (saysR f st ss).length ≤ ss.length * m
  | [], _, _ => by simp [saysR]
  | s :: ss, st, h => by
    show (f st s ++ saysR f _ ss).length ≤ _
    rw [List.length_append, List.length_cons, Nat.add_mul]
    have := h s List.mem_cons_self st
    have := says_len (ss := ss) (st := st + (f st s).length) fun s' h' => h s' (List.mem_cons_of_mem _ h')
    omega
theorem says_len6 {f : Nat → PyData → List PyData} {m : Nat} {ss : List PyData} {st : Nat} (h6 : ss.length ≤ 6) (h : ∀ s ∈ ss, ∀ st, (f st s).length ≤ m) : (saysR f st ss).length ≤ 6 * m := Nat.le_trans (says_len h) (Nat.mul_le_mul_right _ h6)
theorem sayR_len {hs : Hds} (C : HdC hs) {w n : Nat} {d : PyData} (h : SayP hs w n d) : ∀ st, (sayR w n st d).length ≤ sayM w n := by
  induction h with
  | @set n x v p q =>
    intro st
    show (valR w v ++ [rw2 "set" (.str x)]).length ≤ _
    have := valR_len C q
    rw [List.length_append]
    unfold sayM
    show _ + 1 ≤ _
    omega
  | @one n o v p q =>
    intro st
    rw [sayR_one]
    have := valR_len C q
    rw [List.length_append]
    unfold sayM
    show _ + 1 ≤ _
    omega
  | @ite n v ss ts q l1 _ l2 _ i1 i2 =>
    intro st
    rw [sayR_ite]
    have hv := valR_len C q
    have h1 := says_len6 (st := st + (valR w v).length + 1) l2 i2
    have h2 := says_len6 (st := st + (valR w v).length + 1 + (saysR (sayR w n) (st + (valR w v).length + 1) ts).length + 1) l1 i1
    unfold ifR sayM
    simp only [List.length_append, List.length_cons]
    omega
  | @whl n v ss q l1 _ i1 =>
    intro st
    rw [sayR_whl q.nostr]
    have hv := valR_len C q
    have h1 := says_len6 (st := st + (valR w v).length + 2) l1 i1
    unfold whileR sayM
    simp only [List.length_append, List.length_cons, List.length_nil]
    omega
  | @tr n x ss ts p l1 _ l2 _ i1 i2 =>
    intro st
    show (tryR (sayR w n) st ss x ts).length ≤ _
    have h1 := says_len6 (st := st + 1) l1 i1
    have h2 := says_len6 (st := st + 1 + (saysR (sayR w n) (st + 1) ss).length + 2 + 1) l2 i2
    unfold tryR sayM
    simp only [List.length_append, List.length_cons]
    omega
theorem sayM_le {w : Nat} (hw : w ≤ 4) : ∀ {n : Nat}, n ≤ 4 → sayM w n ≤ 160000 := fun {n} hn => by
  have hv : valM w ≤ 80 := Nat.le_trans (valM_le hw) (by decide)
  match n, hn with
  | 0, _ => simp [sayM]
  | 1, _ => simp only [sayM]; omega
  | 2, _ => simp only [sayM]; omega
  | 3, _ => simp only [sayM]; omega
  | 4, _ => simp only [sayM]; omega
def stN (d : PyData) : Nat := match d with
  | .int i => i.toNat
  | _ => 0
def tupL (d : PyData) : List PyData := match d with
  | .tuple ds => ds
  | _ => []
def SsP (hs : Hds) (w n : Nat) (ss : List PyData) : Prop := ss.length ≤ 6 ∧ ∀ s ∈ ss, SayP hs w n s
def SRpre (w n : Nat) (ds : List PyData) : Prop := ∃ d hs st, ds = [d, .int (st : Nat)] ∧ HdC hs ∧ SayP hs w n d
def SSpre (w n : Nat) (ds : List PyData) : Prop := ∃ ss hs st, ds = [.tuple ss, .int (st : Nat)] ∧ HdC hs ∧ SsP hs w n ss
def IFpre (w n : Nat) (ds : List PyData) : Prop := ∃ v ss ts hs st, ds = [v, .tuple ss, .tuple ts, .int (st : Nat)] ∧ HdC hs ∧ ValP hs w v ∧ SsP hs w n ss ∧ SsP hs w n ts
def WHpre (w n : Nat) (ds : List PyData) : Prop := ∃ v ss hs st, ds = [v, .tuple ss, .int (st : Nat)] ∧ HdC hs ∧ ValP hs w v ∧ SsP hs w n ss
def TRpre (w n : Nat) (ds : List PyData) : Prop := ∃ ss x ts hs st, ds = [.tuple ss, .str x, .tuple ts, .int (st : Nat)] ∧ HdC hs ∧ SsP hs w n ss ∧ SsP hs w n ts
abbrev spSR (K : PySem.W.Frag) (w n : Nat) : Sp := spR K (SRpre w n) fun ds => sayR w n (stN (ds.getD 1 .none)) (ds.headD .none)
abbrev spSS (K : PySem.W.Frag) (w n : Nat) : Sp := spR K (SSpre w n) fun ds => saysR (sayR w n) (stN (ds.getD 1 .none)) (tupL (ds.headD .none))
abbrev spIF (K : PySem.W.Frag) (w n : Nat) : Sp := spR K (IFpre w n) fun ds => ifR (sayR w n) (stN (ds.getD 3 .none)) (valR w (ds.headD .none)) (tupL (ds.getD 1 .none)) (tupL (ds.getD 2 .none))
abbrev spWH (K : PySem.W.Frag) (w n : Nat) : Sp := spR K (WHpre w n) fun ds => whileR (sayR w n) (stN (ds.getD 2 .none)) (valR w (ds.headD .none)) (tupL (ds.getD 1 .none))
def strS (d : PyData) : Str := match d with
  | .str x => x
  | _ => ""
abbrev spTR (K : PySem.W.Frag) (w n : Nat) : Sp := spR K (TRpre w n) fun ds => tryR (sayR w n) (stN (ds.getD 3 .none)) (tupL (ds.headD .none)) (strS (ds.getD 1 .none)) (tupL (ds.getD 2 .none))
abbrev s_ssrows : Stmt := topS 19
abbrev s_srows : Stmt := topS 20
abbrev s_ifrows : Stmt := topS 21
abbrev s_whrows : Stmt := topS 22
abbrev s_trrows : Stmt := topS 23
abbrev NSS : List Str := ["sayings", "start", "rows", "saying"]
abbrev NSR : List Str := ["saying", "start", "word"]
abbrev NIF : List Str := ["value", "first", "second", "start", "asked", "otherwise", "target", "chosen"]
abbrev NWH : List Str := ["value", "sayings", "start", "asked", "target", "again"]
abbrev NTY : List Str := ["first", "name", "second", "start", "tried", "taker", "taken", "end"]
theorem sc_ss : FnScope NSS ["sayings", "start"] (defScope s_ssrows) := ⟨rfl, rfl, rfl, by decide +kernel, rfl, by decide +kernel, by decide +kernel⟩
theorem sc_sr : FnScope NSR ["saying", "start"] (defScope s_srows) := ⟨rfl, rfl, rfl, by decide +kernel, rfl, by decide +kernel, by decide +kernel⟩
theorem sc_if : FnScope NIF ["value", "first", "second", "start"] (defScope s_ifrows) := ⟨rfl, rfl, rfl, by decide +kernel, rfl, by decide +kernel, by decide +kernel⟩
theorem sc_wh : FnScope NWH ["value", "sayings", "start"] (defScope s_whrows) := ⟨rfl, rfl, rfl, by decide +kernel, rfl, by decide +kernel, by decide +kernel⟩
theorem sc_try : FnScope NTY ["first", "name", "second", "start"] (defScope s_trrows) := ⟨rfl, rfl, rfl, by decide +kernel, rfl, by decide +kernel, by decide +kernel⟩
theorem three_of {K : PySem.W.Frag} {H : Hp} {vs : List V} {d1 d2 d3 : PyData} (h : DdAll K H vs [d1, d2, d3]) : ∃ v1 v2 v3, vs = [v1, v2, v3] ∧ Dd K H v1 d1 ∧ Dd K H v2 d2 ∧ Dd K H v3 d3 := by
  cases h with
  | cons a1 h =>
    cases h with
    | cons a2 h =>
      cases h with
      | cons a3 h =>
        cases h
        exact ⟨_, _, _, rfl, a1, a2, a3⟩
end Wr

set_option Elab.async false
set_option linter.all false
set_option maxRecDepth 100000
set_option maxHeartbeats 4000000
namespace Wr
open PySem PySem.Spec PyProof.Rows L2 Evl
section
variable {K : PySem.W.Frag} {b : List Addr} {σ : L2.St} {H H' : Hp} {ta tb te : TE} {t : TA} {ds es : List PyData} {d : PyData}
theorem ed_lenL {c : Addr} {vs : List V} {j : Nat} (hs : σ[j]? = some (some (.ref c))) (h : H c = some (.lst vs)) : ED K b (tCB (rLen K) (tCons (tVar j) tNil)) σ H (.int (vs.length : Nat)) := fun H1 x1 Q q =>
  ⟨.ref c, hs, .ref c, vs.length, rfl, Or.inl ⟨_, .inl (.inl (x1 _ _ h)), rfl⟩, q _ H1 (Ex.refl H1) (.int _)⟩
theorem ed_lenV {v : V} {j : Nat} (hs : σ[j]? = some (some v)) (h : Dq K b H v (.list ds)) : ED K b (tCB (rLen K) (tCons (tVar j) tNil)) σ H (.int (ds.length : Nat)) := ed_len (ed_var hs h) (.inr (.inl rfl)) fun y e => by cases e
theorem ed_addN {i j : Nat} (ha : ED K b ta σ H (.int (i : Nat))) (hb : ED K b tb σ H (.int (j : Nat))) : ED K b (tOp (rI0 fun i j => .int (i + j)) ta tb) σ H (.int ((i + j : Nat) : Nat)) := (ed_add ha hb).to (by rw [Int.natCast_add])
theorem ed_nat {i : Nat} : ED K b (tC (.int (i : Nat))) σ H (.int (i : Nat)) := ed_int
theorem ed_vn {i j : Nat} (h : σ[j]? = some (some (.int (i : Nat)))) : ED K b (tVar j) σ H (.int (i : Nat)) := ed_var h (.int _)
end
section
variable {P : Program} {w : World} {K : PySem.W.Frag} {mg : Str → Option Value} {base : Heap} {f f2 f3 f4 f5 g g2 g3 : Addr} {fd fd2 fd3 fd4 fd5 gd gd2 gd3 : FuncData} {wd n : Nat}
theorem ok_ss1 (hw : wd ≤ 4) (hn : n ≤ 4) (D : Def K mg "sayings_rows" s_ssrows ["sayings", "start"] f fd) (D1 : Def K mg "saying_rows" s_srows ["saying", "start"] f2 fd2) (IH : FnOk P w K mg base CX0 (3 * n + 7) f2 fd2 ["saying", "start"] (spSR K wd n)) (B : Blt mg) : FnOk P w K mg base CX0 (3 * n + 8) f fd ["sayings", "start"] (spSS K wd n) := by
  refine D.F.ok sc_ss (fun vs H Q E h => spR_len (fun ds ⟨_, _, _, e, _⟩ => by rw [e]; rfl) h) (fun cdv A outer s H vs Q E hr h => ?_)
  obtain ⟨b, ds, kn, hd, ⟨ss, hs, st, rfl, C, l6, hss⟩, q⟩ := h
  obtain ⟨v, v2, d1, d2, rfl, ed, h1, h2⟩ := two_of hd rfl
  cases ed
  have e2 := dq_int h2
  subst e2
  have q : ∀ q0 us H', H q0 = none → Ex H H' → H' q0 = some (.lst us) → DqAll K b H' us (saysR (sayR wd n) st ss) → Q (.ref q0) H' := q
  refine ⟨_, pss_cons (ps_set (i := 2) sc_ss.nd rfl (Or.inl rfl) (pe_lst pa_nil))
    (pss_cons (ps_for PassesOwn.never rfl (pi_tup (pv 0)) (pg_name (i := 3) sc_ss.nd rfl (Or.inl rfl)) (pss_one (ps_expr (pe_bm PySem.F.plainAttrs_list PySem.F.slot_list_extend PySem.F.type_list_extend mt_extend (pv 2) (pa_cons (pe_cd D1 IH hr (pa_cons (pv 3) (pa_cons (pe_op op_add (pv 1) (pe_callB call_lenD1 rfl B.len bb_len (pa_cons (pv 2) pa_nil))) pa_nil))) pa_nil)))))
    (pss_one (ps_ret (pv 2)))), ?_⟩
  have hsl : sizeLine = 16777216 := sizeLine_eq
  refine g_lst (K := K) (b := b) (ds := []) kn ea_nil (by decide) fun R vR H4 hR x4 h4 dR => ?_
  cases dR
  have Rb : R ∉ b := kn.new hR
  have hvR : Dq K (R :: b) H4 v (.tuple ss) := dp_ex (hid_ex x4) _ _ (Dq.hide h1 hR)
  cases hvR with
  | @tup at_ xs _ g1 gN g2 =>
  have lxs := dps_len g2
  have hgr : ∀ {H' : Hp}, (∀ c o, c ≠ R → H4 c = some o → H' c = some o) → Ex (hid (R :: b) H4) (hid (R :: b) H') := fun {H'} hg c o z => by
    obtain ⟨z1, z2⟩ := hid_some z
    rw [hid_ne z1]
    exact hg c o (fun e => z1 (by rw [e]; exact List.mem_cons_self)) z2
  have knR : ∀ {H' : Hp} {us : List V}, (∀ c o, c ≠ R → H4 c = some o → H' c = some o) → H' R = some (.lst us) → Kn (R :: b) H' := fun {H' us} hg hr' c hc z => by
    rcases List.mem_cons.mp hc with rfl | hc
    · rw [hr'] at z; cases z
    · have cR : c ≠ R := fun e => Rb (e ▸ hc)
      cases y : H4 c with
      | none => exact (kn.up x4) c hc y
      | some o => rw [hg c o cR y] at z; cases z
  have hM := sayM_le hw hn
  refine ⟨.ref at_, rfl, at_, rfl, ⟨_, ex_t hid_le g1⟩, ?_⟩
  refine for_it walk_tup (fun i σ' H' => (∃ y3, σ' = [some (.ref at_), some (.int (st : Nat)), some (.ref R), y3]) ∧ (∀ c o, c ≠ R → H4 c = some o → H' c = some o) ∧ ∃ us, H' R = some (.lst us) ∧ DqAll K (R :: b) H' us (saysR (sayR wd n) st (ss.take i))) ⟨⟨none, rfl⟩, fun c o _ z => z, [], h4, .nil⟩ (fun i σ' H' _ p => ex_t hid_le (ex_t (hgr p.2.1) g1)) ?_ ?_
  · intro i y σ' H' Hx hi ⟨⟨y3, eσ⟩, hg, us, hus, dus⟩ ⟨eH, hy⟩
    subst eσ eH
    obtain ⟨e, hei, de⟩ := dps_at g2 hy
    have hem := List.mem_of_getElem? hei
    have de' : Dq K (R :: b) Hx y e := dp_ex (hgr hg) _ _ de
    have knx := knR hg hus
    have lus := dps_len dus
    have el := el_call (K := K) (b := R :: b) (σ := [some (.ref at_), some (.int (st : Nat)), some (.ref R), some y]) (pre := SRpre wd n) (f := fun ds => sayR wd n (stN (ds.getD 1 .none)) (ds.headD .none)) (E := E0) knx (ea_cons (ed_var (i := 3) rfl de') (ea_cons (ed_addN (ed_vn (i := st) (j := 1) rfl) (ed_lenL (j := 2) rfl hus)) ea_nil)) ⟨e, hs, st + us.length, rfl, C, hss e hem⟩
    have l1 := sayR_len C (hss e hem) (st + us.length)
    have l2 : (saysR (sayR wd n) st (ss.take i)).length ≤ 6 * sayM wd n := says_len6 (by
      have := List.length_take_le' i ss
      omega) fun s' h' st' => sayR_len C (hss s' (List.mem_of_mem_take h')) st'
    refine g_ext (K := K) (b := R :: b) (j := 2) rfl hus (by
      show us.length + (sayR wd n (st + us.length) e).length ≤ _
      omega) el fun us' H6 x6 hu' => ⟨⟨_, rfl⟩, fun c o hc z => ?_, us ++ us', upd_same, ?_⟩
    · rw [upd_ne hc]
      exact x6 _ _ (hg c o hc z)
    · have et : saysR (sayR wd n) st (ss.take (i + 1)) = saysR (sayR wd n) st (ss.take i) ++ sayR wd n (st + us.length) e := by
        rw [List.take_add_one, hei]
        show saysR (sayR wd n) st (ss.take i ++ [e]) = _
        rw [saysR_snoc, lus]
      rw [et]
      exact dps_ex put_ex _ _ (dps_app (DqAll.up dus x6) hu')
  · intro σ' H' ⟨⟨y3, eσ⟩, hg, us, hus, dus⟩
    subst eσ
    rw [lxs, List.take_of_length_le (Nat.le_refl _)] at dus
    have xx : Ex H H' := fun c o z => by
      have cR : c ≠ R := fun e => by rw [e, hR] at z; cases z
      exact hg c o cR (x4 _ _ z)
    exact ⟨.ref R, rfl, q R us H' hR xx hus (dps_ex show_ex _ _ dus)⟩
theorem ok_if1 (hw : wd ≤ 4) (hn : n ≤ 4) (D : Def K mg "if_rows" s_ifrows ["value", "first", "second", "start"] f fd) (Ds : Def K mg "sayings_rows" s_ssrows ["sayings", "start"] f2 fd2) (Gs : FnOk P w K mg base CX0 (3 * n + 8) f2 fd2 ["sayings", "start"] (spSS K wd n)) (Dv : Def K mg "value_rows" s_vrows ["value"] f3 fd3) (B : Blt mg) :
    FnOk P w K mg base CX0 (3 * n + 9) f fd ["value", "first", "second", "start"] (spIF K wd n) := by
  refine D.F.ok sc_if (fun vs H Q E h => spR_len (fun ds ⟨_, _, _, _, _, e, _⟩ => by rw [e]; rfl) h) (fun cdv A outer s H vs Q E hr h => ?_)
  obtain ⟨b, ds, kn, hd, ⟨vd, ss, ts, hs, st, rfl, C, hv, hss, hts⟩, q⟩ := h
  obtain ⟨v, v2, v3, v4, d1, d2, d3, d4, rfl, ed, h1, h2, h3, h4⟩ := four_of hd rfl
  cases ed
  have e4 := dq_int h4
  subst e4
  have q : ∀ q0 us H', H q0 = none → Ex H H' → H' q0 = some (.lst us) → DqAll K b H' us (ifR (sayR wd n) st (valR wd vd) ss ts) → Q (.ref q0) H' := q
  have Gv := ok_vrows (P := P) (w := w) (base := base) Dv B wd (by omega)
  have rv : Room (wd + 1) _ := hr.mono (by omega)
  refine ⟨_, pss_cons (ps_set (i := 4) sc_if.nd rfl (Or.inl rfl) (pe_cd Dv Gv rv (pa_cons (pv 0) pa_nil)))
    (pss_cons (ps_set (i := 5) sc_if.nd rfl (Or.inl rfl) (pe_cd Ds Gs hr (pa_cons (pv 2) (pa_cons (pe_op op_add (pe_op op_add (pv 3) (pe_callB call_lenD1 rfl B.len bb_len (pa_cons (pv 4) pa_nil))) pe_int) pa_nil))))
    (pss_cons (ps_set (i := 6) sc_if.nd rfl (Or.inl rfl) (pe_op op_add (pe_op op_add (pe_op op_add (pe_op op_add (pv 3) (pe_callB call_lenD1 rfl B.len bb_len (pa_cons (pv 4) pa_nil))) pe_int) (pe_callB call_lenD1 rfl B.len bb_len (pa_cons (pv 5) pa_nil))) pe_int))
    (pss_cons (ps_set (i := 7) sc_if.nd rfl (Or.inl rfl) (pe_cd Ds Gs hr (pa_cons (pv 1) (pa_cons (pv 6) pa_nil))))
    (pss_one (ps_ret (pe_lst (StX.pa_star (pv 4) (pa_cons (pe_tupF (pa_cons pe_str (pa_cons (pv 6) pa_nil))) (StX.pa_star (pv 5) (pa_cons (pe_tupF (pa_cons pe_str (pa_cons (pe_op op_add (pv 6) (pe_callB call_lenD1 rfl B.len bb_len (pa_cons (pv 7) pa_nil))) pa_nil))) (StX.pa_star (pv 7) pa_nil))))))))))), ?_⟩
  have hsl : sizeLine = 16777216 := sizeLine_eq
  have hM := sayM_le hw hn
  have hVM : valM wd ≤ 80 := Nat.le_trans (valM_le hw) (by decide)
  have fr : ∀ {c : Addr} {H' : Hp}, Ex H H' → H' c = none → H c = none := fun {c H'} x z => by
    cases y : H c with
    | none => rfl
    | some o => rw [x _ _ y] at z; cases z
  refine g_set ((el_call (K := K) (b := b) (pre := VRpre wd) (f := fun ds => valR wd (ds.headD .none)) (E := E0) kn (ea_cons (ed_var (σ := [some v, some v2, some v3, some (.int (st : Nat)), none, none, none, none]) (i := 0) rfl h1) ea_nil) ⟨vd, hs, rfl, C, hv⟩).ed kn) fun w4 H1 x1 d4 => ?_
  have d4 : Dq K b H1 w4 (.list (valR wd vd)) := d4
  have kn1 := kn.up x1
  refine g_set ((el_call (K := K) (b := b) (pre := SSpre wd n) (f := fun ds => saysR (sayR wd n) (stN (ds.getD 1 .none)) (tupL (ds.headD .none))) (E := E0) kn1 (ea_cons (ed_var (σ := [some v, some v2, some v3, some (.int (st : Nat)), some w4, none, none, none]) (i := 2) rfl (Dq.up h3 x1)) (ea_cons (ed_addN (ed_addN (ed_vn (i := st) (j := 3) rfl) (ed_lenV (j := 4) rfl d4)) (ed_nat (i := 1))) ea_nil)) ⟨ts, hs, st + (valR wd vd).length + 1, rfl, C, hts⟩).ed kn1) fun w5 H2 x2 d5 => ?_
  have d5 : Dq K b H2 w5 (.list (saysR (sayR wd n) (st + (valR wd vd).length + 1) ts)) := d5
  have x12 := x1.trans x2
  have kn2 := kn.up x12
  have d4 := Dq.up d4 x2
  refine g_set (ed_addN (K := K) (b := b) (ed_addN (ed_addN (ed_addN (ed_vn (σ := [some v, some v2, some v3, some (.int (st : Nat)), some w4, some w5, none, none]) (i := st) (j := 3) rfl) (ed_lenV (j := 4) rfl d4)) (ed_nat (i := 1))) (ed_lenV (j := 5) rfl d5)) (ed_nat (i := 1))) fun w6 H3 x3 d6 => ?_
  have e6 := dq_int d6
  subst e6
  have x13 := x12.trans x3
  have kn3 := kn.up x13
  refine g_set ((el_call (K := K) (b := b) (pre := SSpre wd n) (f := fun ds => saysR (sayR wd n) (stN (ds.getD 1 .none)) (tupL (ds.headD .none))) (E := E0) kn3 (ea_cons (ed_var (σ := [some v, some v2, some v3, some (.int (st : Nat)), some w4, some w5, some (.int ((st + (valR wd vd).length + 1 + (saysR (sayR wd n) (st + (valR wd vd).length + 1) ts).length + 1 : Nat) : Int)), none]) (i := 1) rfl (Dq.up h2 x13)) (ea_cons (ed_vn (j := 6) rfl) ea_nil)) ⟨ss, hs, _, rfl, C, hss⟩).ed kn3) fun w7 H4 x4 d7 => ?_
  have d7 : Dq K b H4 w7 (.list (saysR (sayR wd n) (st + (valR wd vd).length + 1 + (saysR (sayR wd n) (st + (valR wd vd).length + 1) ts).length + 1) ss)) := d7
  have x14 := x13.trans x4
  have kn4 := kn.up x14
  have ea := ea_star (K := K) (b := b) (ed_var (σ := [some v, some v2, some v3, some (.int (st : Nat)), some w4, some w5, some (.int ((st + (valR wd vd).length + 1 + (saysR (sayR wd n) (st + (valR wd vd).length + 1) ts).length + 1 : Nat) : Int)), some w7]) (i := 4) rfl (Dq.up (Dq.up d4 x3) x4)) (ea_cons (ed_tup kn4 (ea_cons (ed_str (x := "if")) (ea_cons (ed_vn (j := 6) rfl) ea_nil)) (by rw [hsl]; show 2 ≤ 16777216; decide)) (ea_star (ed_var (i := 5) rfl (Dq.up (Dq.up d5 x3) x4)) (ea_cons (ed_tup kn4 (ea_cons (ed_str (x := "go")) (ea_cons (ed_addN (ed_vn (j := 6) rfl) (ed_lenV (j := 7) rfl d7)) ea_nil)) (by rw [hsl]; show 2 ≤ 16777216; decide)) (ea_star (ed_var (i := 7) rfl d7) ea_nil))))
  rw [List.append_nil] at ea
  refine g_retL (K := K) (b := b) ea ?_ fun q0 us H5 hq x5 h5 hu => q q0 us H5 (fr x14 hq) (x14.trans x5) h5 hu
  have l0 := valR_len C hv
  have l1 := says_len6 (st := st + (valR wd vd).length + 1) hts.1 fun s' h' st' => sayR_len C (hts.2 s' h') st'
  have l2 := says_len6 (st := st + (valR wd vd).length + 1 + (saysR (sayR wd n) (st + (valR wd vd).length + 1) ts).length + 1) hss.1 fun s' h' st' => sayR_len C (hss.2 s' h') st'
  simp only [List.length_append, List.length_cons]
  omega
end
end Wr

set_option Elab.async false
set_option linter.all false
set_option maxRecDepth 100000
set_option maxHeartbeats 4000000
namespace Wr
open PySem PySem.Spec PyProof.Rows L2 Evl
section
variable {P : Program} {w : World} {K : PySem.W.Frag} {mg : Str → Option Value} {base : Heap} {f f2 f3 f4 f5 f6 g g2 g3 : Addr} {fd fd2 fd3 fd4 fd5 fd6 gd gd2 gd3 : FuncData} {wd n : Nat}
theorem ok_wh1 (hw : wd ≤ 4) (hn : n ≤ 4) (D : Def K mg "while_rows" s_whrows ["value", "sayings", "start"] f fd) (Ds : Def K mg "sayings_rows" s_ssrows ["sayings", "start"] f2 fd2) (Gs : FnOk P w K mg base CX0 (3 * n + 8) f2 fd2 ["sayings", "start"] (spSS K wd n)) (Dv : Def K mg "value_rows" s_vrows ["value"] f3 fd3) (B : Blt mg) :
    FnOk P w K mg base CX0 (3 * n + 9) f fd ["value", "sayings", "start"] (spWH K wd n) := by
  refine D.F.ok sc_wh (fun vs H Q E h => spR_len (fun ds ⟨_, _, _, _, e, _⟩ => by rw [e]; rfl) h) (fun cdv A outer s H vs Q E hr h => ?_)
  obtain ⟨b, ds, kn, hd, ⟨vd, ss, hs, st, rfl, C, hv, hss⟩, q⟩ := h
  obtain ⟨v, v2, v3, rfl, h1, h2, h3⟩ := three_of hd
  have e3 := dq_int h3
  subst e3
  have q : ∀ q0 us H', H q0 = none → Ex H H' → H' q0 = some (.lst us) → DqAll K b H' us (whileR (sayR wd n) st (valR wd vd) ss) → Q (.ref q0) H' := q
  have Gv := ok_vrows (P := P) (w := w) (base := base) Dv B wd (by omega)
  have rv : Room (wd + 1) _ := hr.mono (by omega)
  refine ⟨_, pss_cons (ps_set (i := 3) sc_wh.nd rfl (Or.inl rfl) (pe_cd Dv Gv rv (pa_cons (pv 0) pa_nil)))
    (pss_cons (ps_set (i := 4) sc_wh.nd rfl (Or.inl rfl) (pe_op op_add (pe_op op_add (pv 2) (pe_callB call_lenD1 rfl B.len bb_len (pa_cons (pv 3) pa_nil))) pe_int))
    (pss_cons (ps_set (i := 5) sc_wh.nd rfl (Or.inl rfl) (pe_cd Ds Gs hr (pa_cons (pv 1) (pa_cons (pv 4) pa_nil))))
    (pss_one (ps_ret (pe_lst (StX.pa_star (pv 3) (pa_cons (pe_tupF (pa_cons pe_str (pa_cons (pv 4) pa_nil))) (pa_cons (pe_tupF (pa_cons pe_str (pa_cons (pe_op op_add (pe_op op_add (pv 4) (pe_callB call_lenD1 rfl B.len bb_len (pa_cons (pv 5) pa_nil))) pe_int) pa_nil))) (StX.pa_star (pv 5) (pa_cons (pe_tupF (pa_cons pe_str (pa_cons (pv 2) pa_nil))) pa_nil)))))))))), ?_⟩
  have hsl : sizeLine = 16777216 := sizeLine_eq
  have hM := sayM_le hw hn
  have hVM : valM wd ≤ 80 := Nat.le_trans (valM_le hw) (by decide)
  have fr : ∀ {c : Addr} {H' : Hp}, Ex H H' → H' c = none → H c = none := fun {c H'} x z => by
    cases y : H c with
    | none => rfl
    | some o => rw [x _ _ y] at z; cases z
  refine g_set ((el_call (K := K) (b := b) (pre := VRpre wd) (f := fun ds => valR wd (ds.headD .none)) (E := E0) kn (ea_cons (ed_var (σ := [some v, some v2, some (.int (st : Nat)), none, none, none]) (i := 0) rfl h1) ea_nil) ⟨vd, hs, rfl, C, hv⟩).ed kn) fun w3 H1 x1 d3 => ?_
  have d3 : Dq K b H1 w3 (.list (valR wd vd)) := d3
  refine g_set (ed_addN (K := K) (b := b) (ed_addN (ed_vn (σ := [some v, some v2, some (.int (st : Nat)), some w3, none, none]) (i := st) (j := 2) rfl) (ed_lenV (j := 3) rfl d3)) (ed_nat (i := 2))) fun w4 H2 x2 d4 => ?_
  have e4 := dq_int d4
  subst e4
  have x12 := x1.trans x2
  have kn2 := kn.up x12
  refine g_set ((el_call (K := K) (b := b) (pre := SSpre wd n) (f := fun ds => saysR (sayR wd n) (stN (ds.getD 1 .none)) (tupL (ds.headD .none))) (E := E0) kn2 (ea_cons (ed_var (σ := [some v, some v2, some (.int (st : Nat)), some w3, some (.int ((st + (valR wd vd).length + 2 : Nat) : Int)), none]) (i := 1) rfl (Dq.up h2 x12)) (ea_cons (ed_vn (j := 4) rfl) ea_nil)) ⟨ss, hs, _, rfl, C, hss⟩).ed kn2) fun w5 H3 x3 d5 => ?_
  have d5 : Dq K b H3 w5 (.list (saysR (sayR wd n) (st + (valR wd vd).length + 2) ss)) := d5
  have x13 := x12.trans x3
  have kn3 := kn.up x13
  have ea := ea_star (K := K) (b := b) (ed_var (σ := [some v, some v2, some (.int (st : Nat)), some w3, some (.int ((st + (valR wd vd).length + 2 : Nat) : Int)), some w5]) (i := 3) rfl (Dq.up (Dq.up d3 x2) x3)) (ea_cons (ed_tup kn3 (ea_cons (ed_str (x := "if")) (ea_cons (ed_vn (j := 4) rfl) ea_nil)) (by rw [hsl]; show 2 ≤ 16777216; decide)) (ea_cons (ed_tup kn3 (ea_cons (ed_str (x := "go")) (ea_cons (ed_addN (ed_addN (ed_vn (j := 4) rfl) (ed_lenV (j := 5) rfl d5)) (ed_nat (i := 1))) ea_nil)) (by rw [hsl]; show 2 ≤ 16777216; decide)) (ea_star (ed_var (i := 5) rfl d5) (ea_cons (ed_tup kn3 (ea_cons (ed_str (x := "go")) (ea_cons (ed_vn (j := 2) rfl) ea_nil)) (by rw [hsl]; show 2 ≤ 16777216; decide)) ea_nil))))
  refine g_retL (K := K) (b := b) ea ?_ fun q0 us H5 hq x5 h5 hu => q q0 us H5 (fr x13 hq) (x13.trans x5) h5 hu
  have l0 := valR_len C hv
  have l1 := says_len6 (st := st + (valR wd vd).length + 2) hss.1 fun s' h' st' => sayR_len C (hss.2 s' h') st'
  simp only [List.length_append, List.length_cons, List.length_nil]
  omega
theorem ok_tr1 (hw : wd ≤ 4) (hn : n ≤ 4) (D : Def K mg "try_rows" s_trrows ["first", "name", "second", "start"] f fd) (Ds : Def K mg "sayings_rows" s_ssrows ["sayings", "start"] f2 fd2) (Gs : FnOk P w K mg base CX0 (3 * n + 8) f2 fd2 ["sayings", "start"] (spSS K wd n)) (B : Blt mg) :
    FnOk P w K mg base CX0 (3 * n + 9) f fd ["first", "name", "second", "start"] (spTR K wd n) := by
  refine D.F.ok sc_try (fun vs H Q E h => spR_len (fun ds ⟨_, _, _, _, _, e, _⟩ => by rw [e]; rfl) h) (fun cdv A outer s H vs Q E hr h => ?_)
  obtain ⟨b, ds, kn, hd, ⟨ss, x, ts, hs, st, rfl, C, hss, hts⟩, q⟩ := h
  obtain ⟨v, v2, v3, v4, d1, d2, d3, d4, rfl, ed, h1, h2, h3, h4⟩ := four_of hd rfl
  cases ed
  have e4 := dq_int h4
  subst e4
  have q : ∀ q0 us H', H q0 = none → Ex H H' → H' q0 = some (.lst us) → DqAll K b H' us (tryR (sayR wd n) st ss x ts) → Q (.ref q0) H' := q
  refine ⟨_, pss_cons (ps_set (i := 4) sc_try.nd rfl (Or.inl rfl) (pe_cd Ds Gs hr (pa_cons (pv 0) (pa_cons (pe_op op_add (pv 3) pe_int) pa_nil))))
    (pss_cons (ps_set (i := 5) sc_try.nd rfl (Or.inl rfl) (pe_op op_add (pe_op op_add (pe_op op_add (pv 3) pe_int) (pe_callB call_lenD1 rfl B.len bb_len (pa_cons (pv 4) pa_nil))) pe_int))
    (pss_cons (ps_set (i := 6) sc_try.nd rfl (Or.inl rfl) (pe_cd Ds Gs hr (pa_cons (pv 2) (pa_cons (pe_op op_add (pv 5) pe_int) pa_nil))))
    (pss_cons (ps_set (i := 7) sc_try.nd rfl (Or.inl rfl) (pe_op op_add (pe_op op_add (pv 5) pe_int) (pe_callB call_lenD1 rfl B.len bb_len (pa_cons (pv 6) pa_nil))))
    (pss_one (ps_ret (pe_lst (pa_cons (pe_tupF (pa_cons pe_str (pa_cons (pv 5) pa_nil))) (StX.pa_star (pv 4) (pa_cons (pe_tupF (pa_cons pe_str pa_nil)) (pa_cons (pe_tupF (pa_cons pe_str (pa_cons (pv 7) pa_nil))) (pa_cons (pe_tupF (pa_cons pe_str (pa_cons (pv 1) pa_nil))) (StX.pa_star (pv 6) pa_nil)))))))))))), ?_⟩
  have hsl : sizeLine = 16777216 := sizeLine_eq
  have hM := sayM_le hw hn
  have fr : ∀ {c : Addr} {H' : Hp}, Ex H H' → H' c = none → H c = none := fun {c H'} x z => by
    cases y : H c with
    | none => rfl
    | some o => rw [x _ _ y] at z; cases z
  refine g_set ((el_call (K := K) (b := b) (pre := SSpre wd n) (f := fun ds => saysR (sayR wd n) (stN (ds.getD 1 .none)) (tupL (ds.headD .none))) (E := E0) kn (ea_cons (ed_var (σ := [some v, some v2, some v3, some (.int (st : Nat)), none, none, none, none]) (i := 0) rfl h1) (ea_cons (ed_addN (ed_vn (i := st) (j := 3) rfl) (ed_nat (i := 1))) ea_nil)) ⟨ss, hs, st + 1, rfl, C, hss⟩).ed kn) fun w4 H1 x1 d4 => ?_
  have d4 : Dq K b H1 w4 (.list (saysR (sayR wd n) (st + 1) ss)) := d4
  refine g_set (ed_addN (K := K) (b := b) (ed_addN (ed_addN (ed_vn (σ := [some v, some v2, some v3, some (.int (st : Nat)), some w4, none, none, none]) (i := st) (j := 3) rfl) (ed_nat (i := 1))) (ed_lenV (j := 4) rfl d4)) (ed_nat (i := 2))) fun w5 H2 x2 d5 => ?_
  have e5 := dq_int d5
  subst e5
  have x12 := x1.trans x2
  have kn2 := kn.up x12
  refine g_set ((el_call (K := K) (b := b) (pre := SSpre wd n) (f := fun ds => saysR (sayR wd n) (stN (ds.getD 1 .none)) (tupL (ds.headD .none))) (E := E0) kn2 (ea_cons (ed_var (σ := [some v, some v2, some v3, some (.int (st : Nat)), some w4, some (.int ((st + 1 + (saysR (sayR wd n) (st + 1) ss).length + 2 : Nat) : Int)), none, none]) (i := 2) rfl (Dq.up h3 x12)) (ea_cons (ed_addN (ed_vn (j := 5) rfl) (ed_nat (i := 1))) ea_nil)) ⟨ts, hs, _, rfl, C, hts⟩).ed kn2) fun w6 H3 x3 d6 => ?_
  have d6 : Dq K b H3 w6 (.list (saysR (sayR wd n) (st + 1 + (saysR (sayR wd n) (st + 1) ss).length + 2 + 1) ts)) := d6
  have x13 := x12.trans x3
  refine g_set (ed_addN (K := K) (b := b) (ed_addN (ed_vn (σ := [some v, some v2, some v3, some (.int (st : Nat)), some w4, some (.int ((st + 1 + (saysR (sayR wd n) (st + 1) ss).length + 2 : Nat) : Int)), some w6, none]) (j := 5) rfl) (ed_nat (i := 1))) (ed_lenV (j := 6) rfl d6)) fun w7 H4 x4 d7 => ?_
  have e7 := dq_int d7
  subst e7
  have x14 := x13.trans x4
  have kn4 := kn.up x14
  have ea := ea_cons (K := K) (b := b) (ed_tup kn4 (ea_cons (ed_str (x := "try")) (ea_cons (ed_vn (σ := [some v, some v2, some v3, some (.int (st : Nat)), some w4, some (.int ((st + 1 + (saysR (sayR wd n) (st + 1) ss).length + 2 : Nat) : Int)), some w6, some (.int ((st + 1 + (saysR (sayR wd n) (st + 1) ss).length + 2 + 1 + (saysR (sayR wd n) (st + 1 + (saysR (sayR wd n) (st + 1) ss).length + 2 + 1) ts).length : Nat) : Int))]) (j := 5) rfl) ea_nil)) (by rw [hsl]; show 2 ≤ 16777216; decide)) (ea_star (ed_var (i := 4) rfl (Dq.up (Dq.up (Dq.up d4 x2) x3) x4)) (ea_cons (ed_tup kn4 (ea_cons (ed_str (x := "done")) ea_nil) (by decide)) (ea_cons (ed_tup kn4 (ea_cons (ed_str (x := "go")) (ea_cons (ed_vn (j := 7) rfl) ea_nil)) (by rw [hsl]; show 2 ≤ 16777216; decide)) (ea_cons (ed_tup kn4 (ea_cons (ed_str (x := "set")) (ea_cons (ed_var (i := 1) rfl (Dq.up h2 x14)) ea_nil)) (by rw [hsl]; show 2 ≤ 16777216; decide)) (ea_star (ed_var (i := 6) rfl (Dq.up d6 x4)) ea_nil)))))
  rw [List.append_nil] at ea
  refine g_retL (K := K) (b := b) ea ?_ fun q0 us H5 hq x5 h5 hu => q q0 us H5 (fr x14 hq) (x14.trans x5) h5 hu
  have l1 := says_len6 (st := st + 1) hss.1 fun s' h' st' => sayR_len C (hss.2 s' h') st'
  have l2 := says_len6 (st := st + 1 + (saysR (sayR wd n) (st + 1) ss).length + 2 + 1) hts.1 fun s' h' st' => sayR_len C (hts.2 s' h') st'
  simp only [List.length_append, List.length_cons]
  omega
end
end Wr

set_option Elab.async false
set_option linter.all false
set_option maxRecDepth 100000
set_option maxHeartbeats 4000000
namespace Wr
open PySem PySem.Spec PyProof.Rows L2 Evl
section
variable {K : PySem.W.Frag} {b : List Addr} {σ : L2.St} {H H' : Hp} {ta tb te : TE} {t : TA} {ds es : List PyData} {d : PyData} {D : Ends}
theorem g_retEL (h : EL K b te σ H ds) (k : ∀ q us H', H q = none → Ex H H' → H' q = some (.lst us) → DqAll K b H' us ds → D.rt (.ref q) H') : tRet te D σ H := h H (Ex.refl H) _ fun p vs H2 x2 hp h2 hv => k p vs H2 hp x2 h2 hv
end
section
variable {P : Program} {w : World} {K : PySem.W.Frag} {mg : Str → Option Value} {base : Heap} {f f2 f3 f4 f5 f6 g g2 g3 : Addr} {fd fd2 fd3 fd4 fd5 fd6 gd gd2 gd3 : FuncData} {wd n : Nat}
theorem ok_sr1 (hw : wd ≤ 4) (hn : n ≤ 4) (D : Def K mg "saying_rows" s_srows ["saying", "start"] f fd) (Dv : Def K mg "value_rows" s_vrows ["value"] f3 fd3) (Di : Def K mg "if_rows" s_ifrows ["value", "first", "second", "start"] f4 fd4) (Gi : FnOk P w K mg base CX0 (3 * n + 9) f4 fd4 ["value", "first", "second", "start"] (spIF K wd n))
    (Dw : Def K mg "while_rows" s_whrows ["value", "sayings", "start"] f5 fd5) (Gw : FnOk P w K mg base CX0 (3 * n + 9) f5 fd5 ["value", "sayings", "start"] (spWH K wd n)) (Dt : Def K mg "try_rows" s_trrows ["first", "name", "second", "start"] f6 fd6) (Gt : FnOk P w K mg base CX0 (3 * n + 9) f6 fd6 ["first", "name", "second", "start"] (spTR K wd n)) (B : Blt mg) :
    FnOk P w K mg base CX0 (3 * (n + 1) + 7) f fd ["saying", "start"] (spSR K wd (n + 1)) := by
  refine D.F.ok sc_sr (fun vs H Q E h => spR_len (fun ds ⟨_, _, _, e, _⟩ => by rw [e]; rfl) h) (fun cdv A outer s H vs Q E hr h => ?_)
  obtain ⟨b, ds, kn, hd, ⟨d, hs, st, rfl, C, hd'⟩, q⟩ := h
  obtain ⟨v, v2, d1, d2, rfl, ed, h1, h2⟩ := two_of hd rfl
  cases ed
  have e2 := dq_int h2
  subst e2
  have q : ∀ q0 us H', H q0 = none → Ex H H' → H' q0 = some (.lst us) → DqAll K b H' us (sayR wd (n + 1) st d) → Q (.ref q0) H' := q
  have Gv := ok_vrows (P := P) (w := w) (base := base) Dv B wd (by omega)
  have rv : Room (wd + 1) _ := hr.mono (by omega)
  have r9 : Room (3 * n + 9) _ := hr.mono (by omega)
  refine ⟨_, pss_cons (ps_set (i := 2) sc_sr.nd rfl (Or.inl rfl) (pe_ix ix_tup (pv 0) pe_int (fun _ _ => rfl)))
    (pss_cons (ps_if (pt_cmpR (op_eqD (hu64 hr)) (pv 2) pe_str (nomark _)) (pss_one (ps_ret (pe_lst (StX.pa_star (pe_cd Dv Gv rv (pa_cons (pe_ix ix_tup (pv 0) pe_int (fun _ _ => rfl)) pa_nil)) (pa_cons (pe_tupF (pa_cons pe_str (pa_cons (pe_ix ix_tup (pv 0) pe_int (fun _ _ => rfl)) pa_nil))) pa_nil))))) pss_nil)
    (pss_cons (ps_if (pt_cmpR (op_eqD (hu64 hr)) (pv 2) pe_str (nomark _)) (pss_one (ps_ret (pe_cd Di Gi r9 (pa_cons (pe_ix ix_tup (pv 0) pe_int (fun _ _ => rfl)) (pa_cons (pe_ix ix_tup (pv 0) pe_int (fun _ _ => rfl)) (pa_cons (pe_ix ix_tup (pv 0) pe_int (fun _ _ => rfl)) (pa_cons (pv 1) pa_nil))))))) pss_nil)
    (pss_cons (ps_if (pt_cmpR (op_eqD (hu64 hr)) (pv 2) pe_str (nomark _)) (pss_one (ps_ret (pe_cd Dw Gw r9 (pa_cons (pe_ix ix_tup (pv 0) pe_int (fun _ _ => rfl)) (pa_cons (pe_ix ix_tup (pv 0) pe_int (fun _ _ => rfl)) (pa_cons (pv 1) pa_nil)))))) pss_nil)
    (pss_cons (ps_if (pt_cmpR (op_eqD (hu64 hr)) (pv 2) pe_str (nomark _)) (pss_one (ps_ret (pe_cd Dt Gt r9 (pa_cons (pe_ix ix_tup (pv 0) pe_int (fun _ _ => rfl)) (pa_cons (pe_ix ix_tup (pv 0) pe_int (fun _ _ => rfl)) (pa_cons (pe_ix ix_tup (pv 0) pe_int (fun _ _ => rfl)) (pa_cons (pv 1) pa_nil))))))) pss_nil)
    (pss_one (ps_ret (pe_lst (StX.pa_star (pe_cd Dv Gv rv (pa_cons (pe_ix ix_tup (pv 0) pe_int (fun _ _ => rfl)) pa_nil)) (pa_cons (pe_tupF (pa_cons (pv 2) pa_nil)) pa_nil))))))))), ?_⟩
  have hsl : sizeLine = 16777216 := sizeLine_eq
  have hVM : valM wd ≤ 80 := Nat.le_trans (valM_le hw) (by decide)
  have fr : ∀ {c : Addr} {H' : Hp}, Ex H H' → H' c = none → H c = none := fun {c H'} x z => by
    cases y : H c with
    | none => rfl
    | some o => rw [x _ _ y] at z; cases z
  have wk : ∀ {x : Str}, (PyData.strOk x && decide (x.length ≤ 8)) = true → SeqAt.shaped (.str x) = true := fun {x} h => by
    rw [Bool.and_eq_true] at h
    exact sh_str h.1
  have tst : ∀ {x y : Str} {H' : Hp}, SeqAt.shaped (.str x) = true → SeqAt.shaped (.str y) = true → EvT (tTest (tOp (rEqD K) (tVar 2) (tC (.str y)))) [some v, some (.int (st : Nat)), some (.str x)] H' (decide (x = y)) := fun {x y H'} hx hy => by
    have := et_t (ed_eq (K := K) (b := b) (σ := [some v, some (.int (st : Nat)), some (.str x)]) (H := H') (ed_var (i := 2) (d := .str x) rfl (.str x)) (ed_str (x := y)) hx hy)
    rw [strEq] at this
    exact this
  have word : ∀ {x : Str} {es : List PyData}, d = .tuple (.str x :: es) → ED K b (tOp (rIxT K) (tVar 0) (tC (.int 0))) [some v, some (.int (st : Nat)), none] H (.str x) := fun {x es} e => ed_ixT (ds := .str x :: es) (ed_var (i := 0) rfl (by rw [← e]; exact h1)) ed_int (atI_nat (j := 0) rfl)
  have at_ : ∀ {x : Str} {es : List PyData} {H' : Hp} {j : Nat} {z : PyData}, d = .tuple es → Ex H H' → es[j]? = some z → ED K b (tOp (rIxT K) (tVar 0) (tC (.int (j : Nat)))) [some v, some (.int (st : Nat)), some (.str x)] H' z := fun {x es H' j z} e x' hz => ed_ixT (ds := es) (ed_var (i := 0) rfl (by rw [← e]; exact Dq.up h1 x')) ed_int (atI_nat hz)
  have vr : ∀ {x : Str} {es : List PyData} {H' : Hp} {j : Nat} {z : PyData}, d = .tuple es → Ex H H' → es[j]? = some z → ValP hs wd z → ED K b (tCall (spVR K wd) [] E0 (tCons (tOp (rIxT K) (tVar 0) (tC (.int (j : Nat)))) tNil)) [some v, some (.int (st : Nat)), some (.str x)] H' (.list (valR wd z)) := fun {x es H' j z} e x' hz hv => (el_call (K := K) (b := b) (pre := VRpre wd) (f := fun ds => valR wd (ds.headD .none)) (E := E0) (kn.up x') (ea_cons (at_ e x' hz) ea_nil) ⟨z, hs, rfl, C, hv⟩).ed (kn.up x')
  cases hd' with
  | @set _ x vd p hv =>
    refine g_set (word rfl) fun w2 H1 x1 d2 => ?_
    have e2 := dq_str d2
    subst e2
    have t1 := tst (H' := H1) (x := "set") (y := "set") (wk (by decide +kernel)) (wk (by decide +kernel))
    rw [decide_eq_true rfl] at t1
    refine g_ifT t1 fun H2 x2 => ?_
    have x12 := x1.trans x2
    have ea := ea_star (K := K) (b := b) (vr (x := "set") (j := 2) rfl x12 rfl hv) (ea_cons (ed_tup (kn.up x12) (ea_cons (ed_str (x := "set")) (ea_cons (at_ (x := "set") (j := 1) (z := .str x) rfl x12 rfl) ea_nil)) (by rw [hsl]; show 2 ≤ 16777216; decide)) ea_nil)
    refine g_retL (K := K) (b := b) ea ?_ fun q0 us H5 hq x5 h5 hu => q q0 us H5 (fr x12 hq) (x12.trans x5) h5 hu
    have := valR_len C hv
    simp only [List.length_append, List.length_cons, List.length_nil]
    omega
  | @one _ o vd p hv =>
    have ho := one_ok p
    have so : SeqAt.shaped (.str o) = true := sh_str ho.1
    refine g_set (word rfl) fun w2 H1 x1 d2 => ?_
    have e2 := dq_str d2
    subst e2
    have t1 := tst (H' := H1) (x := o) (y := "set") so (wk (by decide +kernel))
    rw [decide_eq_false (fun e => by rw [e] at p; revert p; decide +kernel)] at t1
    refine g_ifF t1 fun H2 x2 => ?_
    have t2 := tst (H' := H2) (x := o) (y := "if") so (wk (by decide +kernel))
    rw [decide_eq_false (fun e => by rw [e] at p; revert p; decide +kernel)] at t2
    refine g_ifF t2 fun H3 x3 => ?_
    have t3 := tst (H' := H3) (x := o) (y := "while") so (wk (by decide +kernel))
    rw [decide_eq_false (fun e => by rw [e] at p; revert p; decide +kernel)] at t3
    refine g_ifF t3 fun H4 x4 => ?_
    have t4 := tst (H' := H4) (x := o) (y := "try") so (wk (by decide +kernel))
    rw [decide_eq_false (fun e => by rw [e] at p; revert p; decide +kernel)] at t4
    refine g_ifF t4 fun H5 x5 => ?_
    have x15 := (((x1.trans x2).trans x3).trans x4).trans x5
    have ea := ea_star (K := K) (b := b) (vr (x := o) (j := 1) rfl x15 rfl hv) (ea_cons (ed_tup (kn.up x15) (ea_cons (ed_var (i := 2) (d := .str o) rfl (.str o)) ea_nil) (by rw [hsl]; show 1 ≤ 16777216; decide)) ea_nil)
    refine g_retL (K := K) (b := b) ea ?_ fun q0 us H6 hq x6 h6 hu => q q0 us H6 (fr x15 hq) (x15.trans x6) h6 ?_
    · have := valR_len C hv
      simp only [List.length_append, List.length_cons, List.length_nil]
      omega
    · rw [sayR_one]
      exact hu
  | @ite _ vd ss ts hv l1 hs1 l2 hs2 =>
    refine g_set (word rfl) fun w2 H1 x1 d2 => ?_
    have e2 := dq_str d2
    subst e2
    have t1 := tst (H' := H1) (x := "if") (y := "set") (wk (by decide +kernel)) (wk (by decide +kernel))
    rw [decide_eq_false (by decide +kernel)] at t1
    refine g_ifF t1 fun H2 x2 => ?_
    have t2 := tst (H' := H2) (x := "if") (y := "if") (wk (by decide +kernel)) (wk (by decide +kernel))
    rw [decide_eq_true rfl] at t2
    refine g_ifT t2 fun H3 x3 => ?_
    have x13 := (x1.trans x2).trans x3
    have el := el_call (K := K) (b := b) (pre := IFpre wd n) (f := fun ds => ifR (sayR wd n) (stN (ds.getD 3 .none)) (valR wd (ds.headD .none)) (tupL (ds.getD 1 .none)) (tupL (ds.getD 2 .none))) (E := E0) (kn.up x13) (ea_cons (at_ (x := "if") (j := 1) (z := vd) rfl x13 rfl) (ea_cons (at_ (x := "if") (j := 2) (z := .tuple ss) rfl x13 rfl) (ea_cons (at_ (x := "if") (j := 3) (z := .tuple ts) rfl x13 rfl) (ea_cons (ed_vn (i := st) (j := 1) rfl) ea_nil)))) ⟨vd, ss, ts, hs, st, rfl, C, hv, ⟨l1, hs1⟩, ⟨l2, hs2⟩⟩
    refine g_retEL el fun q0 us H6 hq x6 h6 hu => q q0 us H6 (fr x13 hq) (x13.trans x6) h6 ?_
    rw [sayR_ite]
    exact hu
  | @whl _ vd ss hv l1 hs1 =>
    refine g_set (word rfl) fun w2 H1 x1 d2 => ?_
    have e2 := dq_str d2
    subst e2
    have t1 := tst (H' := H1) (x := "while") (y := "set") (wk (by decide +kernel)) (wk (by decide +kernel))
    rw [decide_eq_false (by decide +kernel)] at t1
    refine g_ifF t1 fun H2 x2 => ?_
    have t2 := tst (H' := H2) (x := "while") (y := "if") (wk (by decide +kernel)) (wk (by decide +kernel))
    rw [decide_eq_false (by decide +kernel)] at t2
    refine g_ifF t2 fun H3 x3 => ?_
    have t3 := tst (H' := H3) (x := "while") (y := "while") (wk (by decide +kernel)) (wk (by decide +kernel))
    rw [decide_eq_true rfl] at t3
    refine g_ifT t3 fun H4 x4 => ?_
    have x14 := ((x1.trans x2).trans x3).trans x4
    have el := el_call (K := K) (b := b) (pre := WHpre wd n) (f := fun ds => whileR (sayR wd n) (stN (ds.getD 2 .none)) (valR wd (ds.headD .none)) (tupL (ds.getD 1 .none))) (E := E0) (kn.up x14) (ea_cons (at_ (x := "while") (j := 1) (z := vd) rfl x14 rfl) (ea_cons (at_ (x := "while") (j := 2) (z := .tuple ss) rfl x14 rfl) (ea_cons (ed_vn (i := st) (j := 1) rfl) ea_nil))) ⟨vd, ss, hs, st, rfl, C, hv, ⟨l1, hs1⟩⟩
    refine g_retEL el fun q0 us H6 hq x6 h6 hu => q q0 us H6 (fr x14 hq) (x14.trans x6) h6 ?_
    rw [sayR_whl hv.nostr]
    exact hu
  | @tr _ x ss ts p l1 hs1 l2 hs2 =>
    refine g_set (word rfl) fun w2 H1 x1 d2 => ?_
    have e2 := dq_str d2
    subst e2
    have t1 := tst (H' := H1) (x := "try") (y := "set") (wk (by decide +kernel)) (wk (by decide +kernel))
    rw [decide_eq_false (by decide +kernel)] at t1
    refine g_ifF t1 fun H2 x2 => ?_
    have t2 := tst (H' := H2) (x := "try") (y := "if") (wk (by decide +kernel)) (wk (by decide +kernel))
    rw [decide_eq_false (by decide +kernel)] at t2
    refine g_ifF t2 fun H3 x3 => ?_
    have t3 := tst (H' := H3) (x := "try") (y := "while") (wk (by decide +kernel)) (wk (by decide +kernel))
    rw [decide_eq_false (by decide +kernel)] at t3
    refine g_ifF t3 fun H4 x4 => ?_
    have t4 := tst (H' := H4) (x := "try") (y := "try") (wk (by decide +kernel)) (wk (by decide +kernel))
    rw [decide_eq_true rfl] at t4
    refine g_ifT t4 fun H5 x5 => ?_
    have x15 := (((x1.trans x2).trans x3).trans x4).trans x5
    have el := el_call (K := K) (b := b) (pre := TRpre wd n) (f := fun ds => tryR (sayR wd n) (stN (ds.getD 3 .none)) (tupL (ds.headD .none)) (strS (ds.getD 1 .none)) (tupL (ds.getD 2 .none))) (E := E0) (kn.up x15) (ea_cons (at_ (x := "try") (j := 1) (z := .tuple ss) rfl x15 rfl) (ea_cons (at_ (x := "try") (j := 2) (z := .str x) rfl x15 rfl) (ea_cons (at_ (x := "try") (j := 3) (z := .tuple ts) rfl x15 rfl) (ea_cons (ed_vn (i := st) (j := 1) rfl) ea_nil)))) ⟨ss, x, ts, hs, st, rfl, C, ⟨l1, hs1⟩, ⟨l2, hs2⟩⟩
    exact g_retEL el fun q0 us H6 hq x6 h6 hu => q q0 us H6 (fr x15 hq) (x15.trans x6) h6 hu
/-- all of them, by how deep they go -/
theorem ok_rows (hw : wd ≤ 4) (Dr : Def K mg "saying_rows" s_srows ["saying", "start"] f fd) (Ds : Def K mg "sayings_rows" s_ssrows ["sayings", "start"] f2 fd2) (Dv : Def K mg "value_rows" s_vrows ["value"] f3 fd3) (Di : Def K mg "if_rows" s_ifrows ["value", "first", "second", "start"] f4 fd4) (Dw : Def K mg "while_rows" s_whrows ["value", "sayings", "start"] f5 fd5) (Dt : Def K mg "try_rows" s_trrows ["first", "name", "second", "start"] f6 fd6) (B : Blt mg) :
    ∀ n, n ≤ 4 → FnOk P w K mg base CX0 (3 * n + 7) f fd ["saying", "start"] (spSR K wd n) ∧ FnOk P w K mg base CX0 (3 * n + 8) f2 fd2 ["sayings", "start"] (spSS K wd n)
  | 0, h => by
    have a : FnOk P w K mg base CX0 (3 * 0 + 7) f fd ["saying", "start"] (spSR K wd 0) := ⟨fun _ _ _ _ ⟨_, _, _, _, ⟨_, _, _, _, _, h⟩, _⟩ => (by cases h), fun _ _ _ _ _ _ _ _ _ _ _ _ _ ⟨_, _, _, _, ⟨_, _, _, _, _, h⟩, _⟩ => (by cases h)⟩
    exact ⟨a, ok_ss1 hw h Ds Dr a B⟩
  | n + 1, h => by
    have IH := ok_rows hw Dr Ds Dv Di Dw Dt B n (by omega)
    have gi := ok_if1 hw (by omega) Di Ds IH.2 Dv B
    have gw := ok_wh1 hw (by omega) Dw Ds IH.2 Dv B
    have gt := ok_tr1 hw (by omega) Dt Ds IH.2 B
    have a := ok_sr1 hw (by omega) Dr Dv Di gi Dw gw Dt gt B
    exact ⟨a, ok_ss1 hw h Ds Dr a B⟩
end
end Wr

set_option Elab.async false
set_option linter.all false
set_option maxRecDepth 100000
set_option maxHeartbeats 4000000
namespace Wr
open PySem PySem.Spec PyProof.Rows L2 Evl
/-! ### defs that put rows behind those of a list -/
def spE (K : PySem.W.Frag) (m : Nat) (pre : PyData → Prop) (f : Nat → PyData → List PyData) : Sp := fun vs H Q _ => ∃ (b : List Addr) (R : Addr) (us : List V) (v : V) (d : PyData), vs = [.ref R, v] ∧ R ∈ b ∧ Kn b H ∧ H R = some (.lst us) ∧ Dq K b H v d ∧ pre d ∧ us.length + m ≤ 5000000 ∧
  ∀ us' H', ExB R H H' → H' R = some (.lst (us ++ us')) → DqAll K b H' us' (f us.length d) → Q .non H'
theorem knB {b : List Addr} {R : Addr} {H H' : Hp} {o : HO} (kn : Kn b H) (x : ExB R H H') (h : H' R = some o) : Kn b H' := fun c hc z => by
  by_cases e : c = R
  · rw [e, h] at z
    cases z
  · cases y : H c with
    | none => exact kn c hc y
    | some u => rw [x c u e y] at z; cases z
section
variable {K : PySem.W.Frag} {b : List Addr} {σ : L2.St} {H H' : Hp} {ta tb te : TE} {t : TA} {tt : TT} {ts t1 t2 : TS} {ds es : List PyData} {d : PyData} {D : Ends} {R : Addr} {us : List V}
theorem g_sT (h : EvT tt σ H true) (k : ∀ H1, Ex H H1 → t1 D σ H1) : tIfS tt t1 t2 D σ H := h H (Ex.refl H) _ fun H1 x1 => by
  rw [if_pos rfl]
  exact k H1 x1
theorem g_sF (h : EvT tt σ H false) (k : ∀ H1, Ex H H1 → t2 D σ H1) : tIfS tt t1 t2 D σ H := h H (Ex.refl H) _ fun H1 x1 => by
  rw [if_neg Bool.false_ne_true]
  exact k H1 x1
theorem g_em {m : Nat} {pre : PyData → Prop} {f : Nat → PyData → List PyData} {E : XK} {i : Nat} (hσ : σ[i]? = some (some (.ref R))) (hb : R ∈ b) (kn : Kn b H) (hR : H R = some (.lst us)) (hl : us.length + m ≤ 5000000) (he : ED K b te σ H d) (hp : pre d) (k : ∀ us' H', ExB R H H' → H' R = some (.lst (us ++ us')) → DqAll K b H' us' (f us.length d) → D.nx σ H') : tDrop (tCall (spE K m pre f) [] E (tCons (tVar i) (tCons te tNil))) D σ H :=
  ⟨.ref R, hσ, he H (Ex.refl H) _ fun v H1 x1 hv => ⟨b, R, us, v, d, rfl, hb, kn.up x1, x1 _ _ hR, hv, hp, hl, fun us' H' x' h' hu => k us' H' ((exb x1).trans x') h' hu⟩⟩
/-- rows.append(..), the list among what is hidden -/
theorem g_apR {j : Nat} (hσ : σ[j]? = some (some (.ref R))) (hb : R ∈ b) (hR : H R = some (.lst us)) (hl : us.length ≤ 5000000) (he : ED K b te σ H d) (k : ∀ y H', ExB R H H' → H' R = some (.lst (us ++ [y])) → DqAll K b H' [y] [d] → D.nx σ H') : tDrop (tBM K "list" rAppend (tVar j) (tCons te tNil)) D σ H :=
  g_app hσ hR (by omega) he fun y H' x hy => k y _ (fun c o hc z => by
    rw [upd_ne hc]
    exact x _ _ z) upd_same (.cons (Dq.upB hb hy fun c o hc z => by
    rw [upd_ne hc]
    exact z) .nil)
end
abbrev s_emv : Stmt := topS 34
abbrev NEv : List Str := ["_law_rows_here", "_law_value_here", "_law_one"]
theorem sc_emv : FnScope NEv ["_law_rows_here", "_law_value_here"] (defScope s_emv) := ⟨rfl, rfl, rfl, by decide +kernel, rfl, by decide +kernel, by decide +kernel⟩
abbrev spEv (K : PySem.W.Frag) (n : Nat) : Sp := spE K (valM n) (fun d => ∃ hs, HdC hs ∧ ValP hs n d) fun _ d => valR n d
section
variable {P : Program} {w : World} {K : PySem.W.Frag} {mg : Str → Option Value} {base : Heap} {f g g2 : Addr} {fd gd gd2 : FuncData}
theorem ok_emv (D : Def K mg "_law_emit_value" s_emv ["_law_rows_here", "_law_value_here"] f fd) (B : Blt mg) : ∀ n, n ≤ 6 → FnOk P w K mg base CX0 (n + 1) f fd ["_law_rows_here", "_law_value_here"] (spEv K n)
  | 0, _ => ⟨fun _ _ _ _ ⟨_, _, _, _, _, _, _, _, _, _, ⟨_, _, h⟩, _⟩ => (by cases h), fun _ _ _ _ _ _ _ _ _ _ _ _ _ ⟨_, _, _, _, _, _, _, _, _, _, ⟨_, _, h⟩, _⟩ => (by cases h)⟩
  | n + 1, hn6 => by
    have IH := ok_emv D B n (by omega)
    refine D.F.ok sc_emv (fun vs H Q E ⟨_, _, _, _, _, e, _⟩ => by rw [e]; rfl) (fun cdv A outer s H vs Q E hr h => ?_)
    obtain ⟨b, R, us, v, d, rfl, hRb, kn, hR, h1, ⟨hs, C, hv⟩, hl, q⟩ := h
    refine ⟨_, pss_one (ps_if (pt_val (pe_callB call_isi rfl B.isi bb_isinstance (pa_cons (pv 1) (pa_cons (pe_tyN rfl B.int bt_int) pa_nil)))) (pss_one (ps_expr (pe_bm PySem.F.plainAttrs_list PySem.F.slot_list_append PySem.F.type_list_append mt_append (pv 0) (pa_cons (pe_tupF (pa_cons pe_str (pa_cons (pv 1) pa_nil))) pa_nil))))
      (pss_one (ps_if (pt_cmpR (op_eqD (hu64 hr)) (pe_ix ix_tup (pv 1) pe_int (fun _ _ => rfl)) pe_str (nomark _)) (pss_one (ps_expr (pe_bm PySem.F.plainAttrs_list PySem.F.slot_list_append PySem.F.type_list_append mt_append (pv 0) (pa_cons (pe_tupF (pa_cons pe_str (pa_cons (pe_ix ix_tup (pv 1) pe_int (fun _ _ => rfl)) pa_nil))) pa_nil))))
      (pss_one (ps_if (pt_cmpR (op_eqD (hu64 hr)) (pe_ix ix_tup (pv 1) pe_int (fun _ _ => rfl)) pe_str (nomark _))
        (pss_cons (ps_for PassesOwn.never rfl (pi_tup (pe_ix ix_tup (pv 1) pe_int (fun _ _ => rfl))) (pg_name (i := 2) sc_emv.nd rfl (Or.inl rfl)) (pss_one (ps_expr (pe_cd D IH hr (pa_cons (pv 0) (pa_cons (pv 2) pa_nil))))))
          (pss_one (ps_expr (pe_bm PySem.F.plainAttrs_list PySem.F.slot_list_append PySem.F.type_list_append mt_append (pv 0) (pa_cons (pe_tupF (pa_cons pe_str (pa_cons (pe_ix ix_tup (pv 1) pe_int (fun _ _ => rfl)) pa_nil))) pa_nil)))))
        (pss_cons (ps_expr (pe_cd D IH hr (pa_cons (pv 0) (pa_cons (pe_ix ix_tup (pv 1) pe_int (fun _ _ => rfl)) pa_nil)))) (pss_cons (ps_expr (pe_cd D IH hr (pa_cons (pv 0) (pa_cons (pe_ix ix_tup (pv 1) pe_int (fun _ _ => rfl)) pa_nil))))
          (pss_one (ps_expr (pe_bm PySem.F.plainAttrs_list PySem.F.slot_list_append PySem.F.type_list_append mt_append (pv 0) (pa_cons (pe_tupF (pa_cons (pe_ix ix_tup (pv 1) pe_int (fun _ _ => rfl)) pa_nil)) pa_nil))))))))))), ?_⟩
    have hsl : sizeLine = 16777216 := sizeLine_eq
    have hM : valM (n + 1) ≤ 2000 := Nat.le_trans (valM_le hn6) (by decide)
    have lenb := valR_len C hv
    have hl : us.length + (3 * valM n + 2) ≤ 5000000 := hl
    have q : ∀ us' H', ExB R H H' → H' R = some (.lst (us ++ us')) → DqAll K b H' us' (valR (n + 1) d) → Q .non H' := q
    have is := et_b (ed_isi (K := K) (b := b) (T := "int") (.inl rfl) (ed_var (σ := [some (.ref R), some v, none]) (i := 1) rfl h1))
    have hd0 : ∀ {x : Str} {es : List PyData} {H' : Hp} {y : Option V}, d = .tuple (.str x :: es) → ExB R H H' → ED K b (tOp (rIxT K) (tVar 1) (tC (.int 0))) [some (.ref R), some v, y] H' (.str x) := fun {x es H' y} e x' => ed_ixT (ds := .str x :: es) (ed_var (i := 1) rfl (by rw [← e]; exact Dq.upB hRb h1 x')) ed_int (atI_nat (j := 0) rfl)
    have at_ : ∀ {es : List PyData} {H' : Hp} {j : Nat} {z : PyData} {y : Option V}, d = .tuple es → ExB R H H' → es[j]? = some z → ED K b (tOp (rIxT K) (tVar 1) (tC (.int (j : Nat)))) [some (.ref R), some v, y] H' z := fun {es H' j z y} e x' hz => ed_ixT (ds := es) (ed_var (i := 1) rfl (by rw [← e]; exact Dq.upB hRb h1 x')) ed_int (atI_nat hz)
    have tst : ∀ {x y : Str} {es : List PyData} {H' : Hp}, d = .tuple (.str x :: es) → (PyData.strOk x = true ∧ x.length ≤ 8) → (PyData.strOk y = true ∧ y.length ≤ 8) → Ex H H' → EvT (tTest (tOp (rEqD K) (tOp (rIxT K) (tVar 1) (tC (.int 0))) (tC (.str y)))) [some (.ref R), some v, none] H' (decide (x = y)) := fun {x y es H'} e hx hy x' => by
      have := et_t (ed_eq (hd0 (y := none) e (exb x')) (ed_str (x := y)) (sh_str hx.1) (sh_str hy.1))
      rw [strEq] at this
      exact this
    have wd : ∀ {x : Str}, (PyData.strOk x && decide (x.length ≤ 8)) = true → PyData.strOk x = true ∧ x.length ≤ 8 := fun {x} h => by
      rw [Bool.and_eq_true] at h
      exact ⟨h.1, of_decide_eq_true h.2⟩
    cases hv with
    | num p =>
      have e : isD "int" d = true := by
        unfold worthD at p
        split at p
        · rfl
        · cases p
      rw [e] at is
      refine g_sT is fun H1 x1 => ?_
      refine g_apR (K := K) (b := b) (j := 0) rfl hRb (x1 _ _ hR) (by omega) (ed_tup (kn.up x1) (ea_cons (ed_str (x := "put")) (ea_cons (ed_var (i := 1) rfl (Dq.up h1 x1)) ea_nil)) (by rw [hsl]; show 2 ≤ 16777216; decide)) fun y H2 x2 h2 hy => q [y] H2 ((exb x1).trans x2) h2 ?_
      rw [valR_num p]
      exact hy
    | @name _ x p =>
      have is : EvT _ _ _ false := is
      refine g_sF is fun H1 x1 => ?_
      have t2 := tst (y := "name") rfl (wd (by decide +kernel)) (wd (by decide +kernel)) x1
      rw [decide_eq_true rfl] at t2
      refine g_sT t2 fun H2 x2 => ?_
      have h12 := x1.trans x2
      exact g_apR (K := K) (b := b) (j := 0) rfl hRb (h12 _ _ hR) (by omega) (ed_tup (kn.up h12) (ea_cons (ed_str (x := "get")) (ea_cons (at_ (j := 1) (z := .str x) rfl (exb h12) rfl) ea_nil)) (by rw [hsl]; show 2 ≤ 16777216; decide)) fun y H3 x3 h3 hy => q [y] H3 ((exb h12).trans x3) h3 hy
    | @op _ o c e p hc he =>
      have is : EvT _ _ _ false := is
      refine g_sF is fun H1 x1 => ?_
      have ho := ops_ok p
      have t2 := tst (y := "name") rfl ho (wd (by decide +kernel)) x1
      rw [decide_eq_false (fun e => by rw [e] at p; revert p; decide +kernel)] at t2
      refine g_sF t2 fun H2 x2 => ?_
      have h12 := x1.trans x2
      have t3 := tst (y := "call") rfl ho (wd (by decide +kernel)) h12
      rw [decide_eq_false (fun e => by rw [e] at p; revert p; decide +kernel)] at t3
      refine g_sF t3 fun H3 x3 => ?_
      have h13 := h12.trans x3
      have eR : valR (n + 1) (.tuple [.str o, c, e]) = (valR n c ++ valR n e) ++ [rw1 o] := valR_op hc.nostr
      have lc := valR_len C hc
      have le := valR_len C he
      have hM' : 3 * valM n + 2 ≤ 2000 := hM
      refine g_em (K := K) (b := b) (i := 0) rfl hRb (kn.up h13) (h13 _ _ hR) (by omega) (at_ (j := 1) (z := c) rfl (exb h13) rfl) ⟨hs, C, hc⟩ fun u1 H4 x4 h4 d4 => ?_
      have x04 : ExB R H H4 := (exb h13).trans x4
      have kn4 := knB kn x04 h4
      have l4 := dps_len d4
      refine g_em (K := K) (b := b) (i := 0) rfl hRb kn4 h4 (by rw [List.length_append]; omega) (at_ (j := 2) (z := e) rfl x04 rfl) ⟨hs, C, he⟩ fun u2 H5 x5 h5 d5 => ?_
      have x05 : ExB R H H5 := x04.trans x5
      have kn5 := knB kn x05 h5
      have l5 := dps_len d5
      refine g_apR (K := K) (b := b) (j := 0) rfl hRb h5 (by rw [List.length_append, List.length_append]; omega) (ed_tup kn5 (ea_cons (hd0 rfl x05) ea_nil) (by rw [hsl]; show 1 ≤ 16777216; decide)) fun y H6 x6 h6 hy => q ((u1 ++ u2) ++ [y]) H6 (x05.trans x6) (by rw [h6]; simp only [List.append_assoc]) ?_
      rw [eR]
      exact dps_app (dps_app (DqAll.upB hRb (DqAll.upB hRb d4 x5) x6) (DqAll.upB hRb d5 x6)) hy
    | @call _ x vs p hvs =>
      have is : EvT _ _ _ false := is
      refine g_sF is fun H1 x1 => ?_
      have t2 := tst (y := "name") rfl (wd (by decide +kernel)) (wd (by decide +kernel)) x1
      rw [decide_eq_false (by decide +kernel)] at t2
      refine g_sF t2 fun H2 x2 => ?_
      have h12 := x1.trans x2
      have t3 := tst (y := "call") rfl (wd (by decide +kernel)) (wd (by decide +kernel)) h12
      rw [decide_eq_true rfl] at t3
      refine g_sT t3 fun H3 x3 => ?_
      have h13 := h12.trans x3
      refine (at_ (j := 2) (z := .tuple vs) (y := none) rfl (exb h13) rfl) H3 (Ex.refl H3) _ fun vt H5 x5 hvt => ?_
      cases hvt with
      | @tup at0 xs _ g1 gN g2 =>
      have lxs := dps_len g2
      have h3v : vs.length ≤ 3 := C.le _ p
      have x15 : ExB R H H5 := (exb h13).trans (exb x5)
      refine ⟨at0, rfl, ⟨_, ex_t hid_le g1⟩, ?_⟩
      refine for_it walk_tup (fun i σ' H' => (∃ y2, σ' = [some (.ref R), some v, y2]) ∧ ExB R H5 H' ∧ ∃ u0, H' R = some (.lst (us ++ u0)) ∧ DqAll K b H' u0 ((vs.take i).flatMap (valR n))) ⟨⟨none, rfl⟩, ExB.refl R H5, [], by rw [List.append_nil]; exact x5 _ _ (h13 _ _ hR), .nil⟩ (fun i σ' H' _ p => ex_t hid_le (ex_t (hid_exB hRb p.2.1) g1)) ?_ ?_
      · intro i y σ' H' Hx hi ⟨⟨y2, eσ⟩, hg, u0, hu0, du0⟩ ⟨eH, hy⟩
        subst eσ eH
        obtain ⟨e, hei, de⟩ := dps_at g2 hy
        have hem := List.mem_of_getElem? hei
        have de' : Dq K b Hx y e := dp_ex (hid_exB hRb hg) _ _ de
        have knx := knB kn (x15.trans hg) hu0
        have l0 := dps_len du0
        have l1 : ((vs.take i).flatMap (valR n)).length ≤ (vs.take i).length * valM n := flat_len fun e' he' => valR_len C (hvs e' (List.mem_of_mem_take he'))
        have li : (vs.take i).length ≤ 2 := by
          rw [List.length_take]
          have : i < vs.length := by omega
          omega
        have l3 : (vs.take i).length * valM n ≤ 2 * valM n := Nat.mul_le_mul_right _ li
        refine g_em (K := K) (b := b) (i := 0) rfl hRb knx hu0 (by rw [List.length_append]; omega) (ed_var (i := 2) rfl de') ⟨hs, C, hvs e hem⟩ fun u1 H6 x6 h6 d6 => ⟨⟨_, rfl⟩, hg.trans x6, u0 ++ u1, by rw [h6, List.append_assoc], ?_⟩
        have et : (vs.take (i + 1)).flatMap (valR n) = (vs.take i).flatMap (valR n) ++ valR n e := by
          rw [List.take_add_one, hei, List.flatMap_append]
          simp
        rw [et]
        exact dps_app (DqAll.upB hRb du0 x6) d6
      · intro σ' H' ⟨⟨y2, eσ⟩, hg, u0, hu0, du0⟩
        subst eσ
        rw [lxs, List.take_of_length_le (Nat.le_refl _)] at du0
        have l0 := dps_len du0
        have l1 : (vs.flatMap (valR n)).length ≤ vs.length * valM n := flat_len fun e' he' => valR_len C (hvs e' he')
        have l3 : vs.length * valM n ≤ 3 * valM n := Nat.mul_le_mul_right _ h3v
        have xx := x15.trans hg
        exact g_apR (K := K) (b := b) (j := 0) rfl hRb hu0 (by rw [List.length_append]; omega) (ed_tup (knB kn xx hu0) (ea_cons (ed_str (x := "call")) (ea_cons (at_ (j := 1) (z := .str x) rfl xx rfl) ea_nil)) (by rw [hsl]; show 2 ≤ 16777216; decide)) fun y H6 x6 h6 hy => q (u0 ++ [y]) H6 (xx.trans x6) (by rw [h6, List.append_assoc]) (dps_app (DqAll.upB hRb du0 x6) hy)
end
end Wr

set_option Elab.async false
set_option linter.all false
set_option maxRecDepth 100000
set_option maxHeartbeats 4000000
namespace Wr
open PySem PySem.Spec PyProof.Rows L2 Evl
theorem set_mid {α : Type} (y x : α) (cs : List α) : ∀ as : List α, (as ++ x :: cs).set as.length y = as ++ y :: cs
  | [] => rfl
  | a :: as => by
    show a :: ((as ++ x :: cs).set as.length y) = a :: (as ++ y :: cs)
    rw [set_mid y x cs as]
section
variable {K : PySem.W.Frag} {b : List Addr} {σ : L2.St} {H H' : Hp} {ta tb te ti : TE} {t : TA} {tt : TT} {ts t1 t2 : TS} {ds es : List PyData} {d : PyData} {D : Ends} {R : Addr} {us : List V}
theorem g_setIx {i k : Nat} {as cs : List V} {x : V} (hσ : σ[i]? = some (some (.ref R))) (hb : R ∈ b) (hR : H R = some (.lst (as ++ x :: cs))) (hk : k = as.length) (hi : ∀ H1, Ex H H1 → ED K b ti σ H1 (.int (k : Nat))) (he : ED K b te σ H d) (kk : ∀ y H', ExB R H H' → H' R = some (.lst (as ++ y :: cs)) → Dq K b H' y d → D.nx σ H') : tAsg te (gSub (tVar i) ti rSetL) D σ H :=
  he H (Ex.refl H) _ fun y H1 x1 hy => ⟨.ref R, hσ, hi H1 x1 H1 (Ex.refl H1) _ fun w H2 x2 hw => by
    have ew := dq_int hw
    subst ew
    refine ⟨R, _, (k : Nat), k, rfl, rfl, x2 _ _ (x1 _ _ hR), ?_, ?_⟩
    · unfold ixN
      rw [if_pos (Int.natCast_nonneg k), if_pos (by
        rw [List.length_append, List.length_cons]
        omega)]
      rfl
    · rw [hk, set_mid]
      exact kk y _ (fun c o hc z => by
        rw [upd_ne hc]
        exact x2 _ _ (x1 _ _ z)) upd_same (Dq.upB hb (Dq.up hy x2) fun c o hc z => by
        rw [upd_ne hc]
        exact z)⟩
theorem g_exR {j : Nat} (hσ : σ[j]? = some (some (.ref R))) (hb : R ∈ b) (hR : H R = some (.lst us)) (hl : us.length + ds.length ≤ 5000000) (he : EL K b te σ H ds) (k : ∀ us' H', ExB R H H' → H' R = some (.lst (us ++ us')) → DqAll K b H' us' ds → D.nx σ H') : tDrop (tBM K "list" rExtend (tVar j) (tCons te tNil)) D σ H :=
  g_ext hσ hR (by omega) he fun us' H' x hu => k us' _ (fun c o hc z => by
    rw [upd_ne hc]
    exact x _ _ z) upd_same (DqAll.upB hb hu fun c o hc z => by
    rw [upd_ne hc]
    exact z)
theorem el_lst (kn : Kn b H) (ha : EA K b t σ H ds) (hl : ds.length ≤ sizeLine) : EL K b (tLst t) σ H ds := fun H1 x1 Q q =>
  ha H1 x1 _ fun vs H2 x2 hvs => ⟨by rw [dps_len hvs]; exact hl, fun p hp => q p vs _ (x2.trans (Ex.new hp)) (by
    cases z : H1 p with
    | none => rfl
    | some o => rw [x2 _ _ z] at hp; cases hp) upd_same (DqAll.up hvs (Ex.new hp))⟩
end
abbrev s_em1 : Stmt := topS 35
abbrev s_em : Stmt := topS 36
abbrev NE1 : List Str := ["_law_rows_here", "_law_saying_here", "_law_word", "_law_first", "_law_last", "_law_here"]
abbrev NEm : List Str := ["_law_rows_here", "_law_sayings_here", "_law_saying_here"]
theorem sc_em1 : FnScope NE1 ["_law_rows_here", "_law_saying_here"] (defScope s_em1) := ⟨rfl, rfl, rfl, by decide +kernel, rfl, by decide +kernel, by decide +kernel⟩
theorem sc_em : FnScope NEm ["_law_rows_here", "_law_sayings_here"] (defScope s_em) := ⟨rfl, rfl, rfl, by decide +kernel, rfl, by decide +kernel, by decide +kernel⟩
abbrev spE1 (K : PySem.W.Frag) (w n : Nat) : Sp := spE K (sayM w n) (fun d => ∃ hs, HdC hs ∧ SayP hs w n d) fun st d => sayR w n st d
abbrev spEs (K : PySem.W.Frag) (w n : Nat) : Sp := spE K (6 * sayM w n) (fun d => ∃ hs ss, d = .tuple ss ∧ HdC hs ∧ SsP hs w n ss) fun st d => saysR (sayR w n) st (tupL d)
section
variable {P : Program} {w : World} {K : PySem.W.Frag} {mg : Str → Option Value} {base : Heap} {f f2 f3 g g2 : Addr} {fd fd2 fd3 gd gd2 : FuncData} {wd n : Nat}
theorem ok_em_s (D : Def K mg "_law_emit" s_em ["_law_rows_here", "_law_sayings_here"] f fd) (D1 : Def K mg "_law_emit_one" s_em1 ["_law_rows_here", "_law_saying_here"] f2 fd2) (IH : FnOk P w K mg base CX0 (2 * n + 6) f2 fd2 ["_law_rows_here", "_law_saying_here"] (spE1 K wd n)) : FnOk P w K mg base CX0 (2 * n + 7) f fd ["_law_rows_here", "_law_sayings_here"] (spEs K wd n) := by
  refine D.F.ok sc_em (fun vs H Q E ⟨_, _, _, _, _, e, _⟩ => by rw [e]; rfl) (fun cdv A outer s H vs Q E hr h => ?_)
  obtain ⟨b, R, us, v, d, rfl, hRb, kn, hR, h1, ⟨hs, ss, ed, C, l6, hss⟩, hl, q⟩ := h
  subst ed
  have q : ∀ us' H', ExB R H H' → H' R = some (.lst (us ++ us')) → DqAll K b H' us' (saysR (sayR wd n) us.length ss) → Q .non H' := q
  refine ⟨_, pss_one (ps_for PassesOwn.never rfl (pi_tup (pv 1)) (pg_name (i := 2) sc_em.nd rfl (Or.inl rfl)) (pss_one (ps_expr (pe_cd D1 IH hr (pa_cons (pv 0) (pa_cons (pv 2) pa_nil)))))), ?_⟩
  cases h1 with
  | @tup at0 xs _ g1 gN g2 =>
  have lxs := dps_len g2
  refine ⟨.ref at0, rfl, at0, rfl, ⟨_, ex_t hid_le g1⟩, ?_⟩
  refine for_it walk_tup (fun i σ' H' => (∃ y2, σ' = [some (.ref R), some (.ref at0), y2]) ∧ ExB R H H' ∧ ∃ u0, H' R = some (.lst (us ++ u0)) ∧ DqAll K b H' u0 (saysR (sayR wd n) us.length (ss.take i))) ⟨⟨none, rfl⟩, ExB.refl R H, [], by rw [List.append_nil]; exact hR, .nil⟩ (fun i σ' H' _ p => ex_t hid_le (ex_t (hid_exB hRb p.2.1) g1)) ?_ ?_
  · intro i y σ' H' Hx hi ⟨⟨y2, eσ⟩, hg, u0, hu0, du0⟩ ⟨eH, hy⟩
    subst eσ eH
    obtain ⟨e, hei, de⟩ := dps_at g2 hy
    have hem := List.mem_of_getElem? hei
    have de' : Dq K b Hx y e := dp_ex (hid_exB hRb hg) _ _ de
    have l0 := dps_len du0
    have li : (ss.take i).length ≤ 5 := by
      rw [List.length_take]
      have : i < ss.length := by omega
      omega
    have l1 : (saysR (sayR wd n) us.length (ss.take i)).length ≤ (ss.take i).length * sayM wd n := says_len fun s' h' st' => sayR_len C (hss s' (List.mem_of_mem_take h')) st'
    have l3 : (ss.take i).length * sayM wd n ≤ 5 * sayM wd n := Nat.mul_le_mul_right _ li
    refine g_em (K := K) (b := b) (i := 0) rfl hRb (knB kn hg hu0) hu0 (by rw [List.length_append]; omega) (ed_var (i := 2) rfl de') ⟨hs, C, hss e hem⟩ fun u1 H6 x6 h6 d6 => ⟨⟨_, rfl⟩, hg.trans x6, u0 ++ u1, by rw [h6, List.append_assoc], ?_⟩
    have et : saysR (sayR wd n) us.length (ss.take (i + 1)) = saysR (sayR wd n) us.length (ss.take i) ++ sayR wd n (us ++ u0).length e := by
      rw [List.take_add_one, hei]
      show saysR (sayR wd n) us.length (ss.take i ++ [e]) = _
      rw [saysR_snoc, List.length_append, l0]
    rw [et]
    exact dps_app (DqAll.upB hRb du0 x6) d6
  · intro σ' H' ⟨⟨y2, eσ⟩, hg, u0, hu0, du0⟩
    subst eσ
    rw [lxs, List.take_of_length_le (Nat.le_refl _)] at du0
    exact q u0 H' hg hu0 du0
theorem ok_em_1 (hw : wd ≤ 4) (D : Def K mg "_law_emit_one" s_em1 ["_law_rows_here", "_law_saying_here"] f fd) (De : Def K mg "_law_emit" s_em ["_law_rows_here", "_law_sayings_here"] f2 fd2) (IH : FnOk P w K mg base CX0 (2 * n + 7) f2 fd2 ["_law_rows_here", "_law_sayings_here"] (spEs K wd n)) (Dv : Def K mg "_law_emit_value" s_emv ["_law_rows_here", "_law_value_here"] f3 fd3) (B : Blt mg) :
    FnOk P w K mg base CX0 (2 * (n + 1) + 6) f fd ["_law_rows_here", "_law_saying_here"] (spE1 K wd (n + 1)) := by
  refine D.F.ok sc_em1 (fun vs H Q E ⟨_, _, _, _, _, e, _⟩ => by rw [e]; rfl) (fun cdv A outer s H vs Q E hr h => ?_)
  obtain ⟨b, R, us, v, d, rfl, hRb, kn, hR, h1, ⟨hs, C, hd'⟩, hl, q⟩ := h
  have q : ∀ us' H', ExB R H H' → H' R = some (.lst (us ++ us')) → DqAll K b H' us' (sayR wd (n + 1) us.length d) → Q .non H' := q
  have Gv := ok_emv (P := P) (w := w) (base := base) Dv B wd (by omega)
  have rv : Room (wd + 1) _ := hr.mono (by omega)
  have re : Room (2 * n + 7) _ := hr.mono (by omega)
  refine ⟨_, pss_cons (ps_set (i := 2) sc_em1.nd rfl (Or.inl rfl) (pe_ix ix_tup (pv 1) pe_int (fun _ _ => rfl)))
    (pss_cons (ps_set (i := 3) sc_em1.nd rfl (Or.inl rfl) (pe_callB call_lenD1 rfl B.len bb_len (pa_cons (pv 0) pa_nil)))
    (pss_cons (ps_if (pt_cmpR (op_eqD (hu64 hr)) (pv 2) pe_str (nomark _))
      (pss_cons (ps_expr (pe_bm PySem.F.plainAttrs_list PySem.F.slot_list_append PySem.F.type_list_append mt_append (pv 0) (pa_cons pe_non pa_nil)))
      (pss_cons (ps_expr (pe_cd De IH re (pa_cons (pv 0) (pa_cons (pe_ix ix_tup (pv 1) pe_int (fun _ _ => rfl)) pa_nil))))
      (pss_cons (ps_expr (pe_bm PySem.F.plainAttrs_list PySem.F.slot_list_extend PySem.F.type_list_extend mt_extend (pv 0) (pa_cons (pe_lst (pa_cons (pe_tupF (pa_cons pe_str pa_nil)) (pa_cons pe_non (pa_cons (pe_tupF (pa_cons pe_str (pa_cons (pe_ix ix_tup (pv 1) pe_int (fun _ _ => rfl)) pa_nil))) pa_nil)))) pa_nil)))
      (pss_cons (ps_asg (pe_tupF (pa_cons pe_str (pa_cons (pe_op op_sub (pe_callB call_lenD1 rfl B.len bb_len (pa_cons (pv 0) pa_nil)) pe_int) pa_nil))) (pg_sub (pv 0) (pv 3) set_list))
      (pss_cons (ps_set (i := 4) sc_em1.nd rfl (Or.inl rfl) (pe_op op_sub (pe_callB call_lenD1 rfl B.len bb_len (pa_cons (pv 0) pa_nil)) pe_int))
      (pss_cons (ps_expr (pe_cd De IH re (pa_cons (pv 0) (pa_cons (pe_ix ix_tup (pv 1) pe_int (fun _ _ => rfl)) pa_nil))))
      (pss_cons (ps_asg (pe_tupF (pa_cons pe_str (pa_cons (pe_callB call_lenD1 rfl B.len bb_len (pa_cons (pv 0) pa_nil)) pa_nil))) (pg_sub (pv 0) (pv 4) set_list))
      (pss_one ps_retN)))))))) pss_nil)
    (pss_cons (ps_expr (pe_cd Dv Gv rv (pa_cons (pv 0) (pa_cons (pe_ix ix_tup (pv 1) (pe_op op_add pe_int (pe_callTy call_intB rfl B.int bt_int (pa_cons (pe_cmpR (op_eqD (hu64 hr)) (pv 2) pe_str (nomark _)) pa_nil))) (fun _ _ => rfl)) pa_nil))))
    (pss_cons (ps_set (i := 5) sc_em1.nd rfl (Or.inl rfl) (pe_callB call_lenD1 rfl B.len bb_len (pa_cons (pv 0) pa_nil)))
    (pss_one (ps_if (pt_cmpR (op_eqD (hu64 hr)) (pv 2) pe_str (nomark _))
      (pss_cons (ps_expr (pe_bm PySem.F.plainAttrs_list PySem.F.slot_list_append PySem.F.type_list_append mt_append (pv 0) (pa_cons pe_non pa_nil)))
      (pss_cons (ps_expr (pe_cd De IH re (pa_cons (pv 0) (pa_cons (pe_ix ix_tup (pv 1) pe_int (fun _ _ => rfl)) pa_nil))))
      (pss_cons (ps_set (i := 4) sc_em1.nd rfl (Or.inl rfl) (pe_callB call_lenD1 rfl B.len bb_len (pa_cons (pv 0) pa_nil)))
      (pss_cons (ps_expr (pe_bm PySem.F.plainAttrs_list PySem.F.slot_list_append PySem.F.type_list_append mt_append (pv 0) (pa_cons pe_non pa_nil)))
      (pss_cons (ps_asg (pe_tupF (pa_cons pe_str (pa_cons (pe_callB call_lenD1 rfl B.len bb_len (pa_cons (pv 0) pa_nil)) pa_nil))) (pg_sub (pv 0) (pv 5) set_list))
      (pss_cons (ps_expr (pe_cd De IH re (pa_cons (pv 0) (pa_cons (pe_ix ix_tup (pv 1) pe_int (fun _ _ => rfl)) pa_nil))))
      (pss_one (ps_asg (pe_tupF (pa_cons pe_str (pa_cons (pe_callB call_lenD1 rfl B.len bb_len (pa_cons (pv 0) pa_nil)) pa_nil))) (pg_sub (pv 0) (pv 4) set_list)))))))))
      (pss_one (ps_if (pt_cmpR (op_eqD (hu64 hr)) (pv 2) pe_str (nomark _))
        (pss_cons (ps_expr (pe_bm PySem.F.plainAttrs_list PySem.F.slot_list_extend PySem.F.type_list_extend mt_extend (pv 0) (pa_cons (pe_lst (pa_cons (pe_tupF (pa_cons pe_str (pa_cons (pe_op op_add (pv 5) pe_int) pa_nil))) (pa_cons pe_non pa_nil))) pa_nil)))
        (pss_cons (ps_expr (pe_cd De IH re (pa_cons (pv 0) (pa_cons (pe_ix ix_tup (pv 1) pe_int (fun _ _ => rfl)) pa_nil))))
        (pss_cons (ps_expr (pe_bm PySem.F.plainAttrs_list PySem.F.slot_list_append PySem.F.type_list_append mt_append (pv 0) (pa_cons (pe_tupF (pa_cons pe_str (pa_cons (pv 3) pa_nil))) pa_nil)))
        (pss_one (ps_asg (pe_tupF (pa_cons pe_str (pa_cons (pe_callB call_lenD1 rfl B.len bb_len (pa_cons (pv 0) pa_nil)) pa_nil))) (pg_sub (pv 0) (pe_op op_add (pv 5) pe_int) set_list))))))
        (pss_one (ps_expr (pe_bm PySem.F.plainAttrs_list PySem.F.slot_list_append PySem.F.type_list_append mt_append (pv 0) (pa_cons (pe_op op_catF (pe_tupF (pa_cons (pv 2) pa_nil)) (pe_slice sl_tupF (pv 1) (po_some pe_int) (po_some (pe_un un_neg pe_int)))) pa_nil)))))))))))), ?_⟩
  have hsl : sizeLine = 16777216 := sizeLine_eq
  have hl : us.length + (valM wd + 4 + 12 * sayM wd n) ≤ 5000000 := hl
  have wk : ∀ {x : Str}, (PyData.strOk x && decide (x.length ≤ 8)) = true → SeqAt.shaped (.str x) = true := fun {x} h => by
    rw [Bool.and_eq_true] at h
    exact sh_str h.1
  have word : ∀ {x : Str} {es : List PyData}, d = .tuple (.str x :: es) → ED K b (tOp (rIxT K) (tVar 1) (tC (.int 0))) [some (.ref R), some v, none, none, none, none] H (.str x) := fun {x es} e => ed_ixT (ds := .str x :: es) (ed_var (i := 1) rfl (by rw [← e]; exact h1)) ed_int (atI_nat (j := 0) rfl)
  have at_ : ∀ {x : Str} {es : List PyData} {H' : Hp} {j : Nat} {z : PyData} {y3 y4 y5 : Option V}, d = .tuple es → ExB R H H' → es[j]? = some z → ED K b (tOp (rIxT K) (tVar 1) (tC (.int (j : Nat)))) [some (.ref R), some v, some (.str x), y3, y4, y5] H' z := fun {x es H' j z y3 y4 y5} e x' hz => ed_ixT (ds := es) (ed_var (i := 1) rfl (by rw [← e]; exact Dq.upB hRb h1 x')) ed_int (atI_nat hz)
  have tst : ∀ {x y : Str} {H' : Hp} {y3 y4 y5 : Option V}, SeqAt.shaped (.str x) = true → SeqAt.shaped (.str y) = true → EvT (tTest (tOp (rEqD K) (tVar 2) (tC (.str y)))) [some (.ref R), some v, some (.str x), y3, y4, y5] H' (decide (x = y)) := fun {x y H' y3 y4 y5} hx hy => by
    have := et_t (ed_eq (K := K) (b := b) (σ := [some (.ref R), some v, some (.str x), y3, y4, y5]) (H := H') (ed_var (i := 2) (d := .str x) rfl (.str x)) (ed_str (x := y)) hx hy)
    rw [strEq] at this
    exact this
  have vix : ∀ {x : Str} {es : List PyData} {H' : Hp} {z : PyData} {y3 y4 y5 : Option V}, SeqAt.shaped (.str x) = true → d = .tuple es → ExB R H H' → es[1 + (if x = "set" then 1 else 0)]? = some z → ED K b (tOp (rIxT K) (tVar 1) (tOp (rI0 fun i j => .int (i + j)) (tC (.int 1)) (tCB rInt1 (tCons (tOp (rEqD K) (tVar 2) (tC (.str "set"))) tNil)))) [some (.ref R), some v, some (.str x), y3, y4, y5] H' z := fun {x es H' z y3 y4 y5} hx e x' hz => by
    have c1 := ed_eq (K := K) (b := b) (σ := [some (.ref R), some v, some (.str x), y3, y4, y5]) (H := H') (ed_var (i := 2) (d := .str x) rfl (.str x)) (ed_str (x := "set")) hx (wk (by decide +kernel))
    rw [strEq] at c1
    have c2 := ed_add (ed_int (i := 1)) (ed_intB c1)
    refine ed_ixT (ds := es) (ed_var (i := 1) rfl (by rw [← e]; exact Dq.upB hRb h1 x')) c2 ?_
    have e3 : (1 + (if decide (x = "set") = true then (1 : Int) else 0)) = ((1 + (if x = "set" then 1 else 0) : Nat) : Int) := by
      by_cases hx' : x = "set"
      · rw [if_pos hx', decide_eq_true hx', if_pos rfl]
        rfl
      · rw [if_neg hx', decide_eq_false hx', if_neg Bool.false_ne_true]
        rfl
    rw [e3]
    exact atI_nat hz
  have lenN : ∀ {H' : Hp} {xs : List V} {k : Nat} {x : Str} {y3 y4 y5 : Option V}, H' R = some (.lst xs) → xs.length = k → ED K b (tCB (rLen K) (tCons (tVar 0) tNil)) [some (.ref R), some v, some (.str x), y3, y4, y5] H' (.int (k : Nat)) := fun {H' xs k x y3 y4 y5} h e => (ed_lenL (j := 0) rfl h).to (by rw [e])
  have lenS : ∀ {H' : Hp} {xs : List V} {k m : Nat} {x : Str} {y3 y4 y5 : Option V}, H' R = some (.lst xs) → xs.length = k + m → ED K b (tOp (rI0 fun i j => .int (i - j)) (tCB (rLen K) (tCons (tVar 0) tNil)) (tC (.int (m : Nat)))) [some (.ref R), some v, some (.str x), y3, y4, y5] H' (.int (k : Nat)) := fun {H' xs k m x y3 y4 y5} h e => (ed_sub (lenN h e) (ed_nat (i := m))).to (by
    have : ((k + m : Nat) : Int) - (m : Nat) = (k : Nat) := by omega
    rw [this])
  have tup2 : ∀ {H' : Hp} {te : TE} {σ' : L2.St} {x : Str} {d0 : PyData}, Kn b H' → ED K b te σ' H' d0 → ED K b (tTupF (tCons (tC (.str x)) (tCons te tNil))) σ' H' (.tuple [.str x, d0]) := fun kn' h => ed_tup kn' (ea_cons ed_str (ea_cons h ea_nil)) (by rw [hsl]; show 2 ≤ 16777216; decide)
  have start : ∀ {x : Str} {es : List PyData}, d = .tuple (.str x :: es) → ∀ (ts : TS) (D' : Ends), (∀ H1, Ex H H1 → ts D' [some (.ref R), some v, some (.str x), some (.int (us.length : Nat)), none, none] H1) → tSeq (tAsg (tOp (rIxT K) (tVar 1) (tC (.int 0))) (gName 2)) (tSeq (tAsg (tCB (rLen K) (tCons (tVar 0) tNil)) (gName 3)) ts) D' [some (.ref R), some v, none, none, none, none] H := fun {x es} e ts D' k => by
    refine g_set (word e) fun w2 H1 x1 d2 => ?_
    have e2 := dq_str d2
    subst e2
    refine g_set (lenN (x1 _ _ hR) rfl) fun w3 H2 x2 d3 => ?_
    have e3 := dq_int d3
    subst e3
    exact k H2 (x1.trans x2)
  cases hd' with
  | @set _ x vd p hv =>
    refine start rfl _ _ fun H1 x1 => ?_
    have t1 := tst (H' := H1) (x := "set") (y := "try") (y3 := some (.int (us.length : Nat))) (y4 := none) (y5 := none) (wk (by decide +kernel)) (wk (by decide +kernel))
    rw [decide_eq_false (by decide +kernel)] at t1
    refine g_ifF t1 fun H2 x2 => ?_
    have x12 := x1.trans x2
    have lv := valR_len C hv
    refine g_em (K := K) (b := b) (i := 0) rfl hRb (kn.up x12) (x12 _ _ hR) (by omega) (vix (x := "set") (z := vd) (wk (by decide +kernel)) rfl (exb x12) rfl) ⟨hs, C, hv⟩ fun u1 H3 x3 h3 d3 => ?_
    have x03 : ExB R H H3 := (exb x12).trans x3
    have l3 := dps_len d3
    refine g_set (lenN h3 rfl) fun w5 H4 x4 d5 => ?_
    have x04 : ExB R H H4 := x03.trans (exb x4)
    have t2 := tst (H' := H4) (x := "set") (y := "if") (y3 := some (.int (us.length : Nat))) (y4 := none) (y5 := some w5) (wk (by decide +kernel)) (wk (by decide +kernel))
    rw [decide_eq_false (by decide +kernel)] at t2
    refine g_sF t2 fun H5 x5 => ?_
    have t3 := tst (H' := H5) (x := "set") (y := "while") (y3 := some (.int (us.length : Nat))) (y4 := none) (y5 := some w5) (wk (by decide +kernel)) (wk (by decide +kernel))
    rw [decide_eq_false (by decide +kernel)] at t3
    refine g_sF t3 fun H6 x6 => ?_
    have x46 := (x4.trans x5).trans x6
    have x06 : ExB R H H6 := x03.trans (exb x46)
    have h6 := x46 _ _ h3
    have kn6 := knB kn x06 h6
    have ec := ed_catT kn6 (ed_tup (K := K) (b := b) (σ := [some (.ref R), some v, some (.str "set"), some (.int (us.length : Nat)), none, some w5]) kn6 (ea_cons (ed_var (i := 2) (d := .str "set") rfl (.str _)) ea_nil) (by rw [hsl]; show 1 ≤ 16777216; decide)) (ed_slT kn6 (ed_var (i := 1) rfl (Dq.upB hRb h1 x06)) (eo_some (K := K) (b := b) (ed_int (i := 1))) (eo_some (K := K) (b := b) (ed_neg (ed_int (i := 1))))) (by rw [hsl]; show 1 + 1 ≤ 16777216; decide)
    refine g_apR (K := K) (b := b) (j := 0) rfl hRb h6 (by rw [List.length_append]; omega) ec fun y H7 x7 h7 hy => q (u1 ++ [y]) H7 (x06.trans x7) (by rw [h7, List.append_assoc]) ?_
    exact dps_app (DqAll.upB hRb (DqAll.upB hRb d3 (exb x46)) x7) hy
  | @one _ o vd p hv =>
    have so : SeqAt.shaped (.str o) = true := sh_str (one_ok p).1
    have ns : o ≠ "set" := fun e => by rw [e] at p; revert p; decide +kernel
    refine start rfl _ _ fun H1 x1 => ?_
    have t1 := tst (H' := H1) (x := o) (y := "try") (y3 := some (.int (us.length : Nat))) (y4 := none) (y5 := none) so (wk (by decide +kernel))
    rw [decide_eq_false (fun e => by rw [e] at p; revert p; decide +kernel)] at t1
    refine g_ifF t1 fun H2 x2 => ?_
    have x12 := x1.trans x2
    have lv := valR_len C hv
    refine g_em (K := K) (b := b) (i := 0) rfl hRb (kn.up x12) (x12 _ _ hR) (by omega) (vix (x := o) (z := vd) so rfl (exb x12) (by rw [if_neg ns]; rfl)) ⟨hs, C, hv⟩ fun u1 H3 x3 h3 d3 => ?_
    have x03 : ExB R H H3 := (exb x12).trans x3
    have l3 := dps_len d3
    refine g_set (lenN h3 rfl) fun w5 H4 x4 d5 => ?_
    have x04 : ExB R H H4 := x03.trans (exb x4)
    have t2 := tst (H' := H4) (x := o) (y := "if") (y3 := some (.int (us.length : Nat))) (y4 := none) (y5 := some w5) so (wk (by decide +kernel))
    rw [decide_eq_false (fun e => by rw [e] at p; revert p; decide +kernel)] at t2
    refine g_sF t2 fun H5 x5 => ?_
    have t3 := tst (H' := H5) (x := o) (y := "while") (y3 := some (.int (us.length : Nat))) (y4 := none) (y5 := some w5) so (wk (by decide +kernel))
    rw [decide_eq_false (fun e => by rw [e] at p; revert p; decide +kernel)] at t3
    refine g_sF t3 fun H6 x6 => ?_
    have x46 := (x4.trans x5).trans x6
    have x06 : ExB R H H6 := x03.trans (exb x46)
    have h6 := x46 _ _ h3
    have kn6 := knB kn x06 h6
    have ec := ed_catT kn6 (ed_tup (K := K) (b := b) (σ := [some (.ref R), some v, some (.str o), some (.int (us.length : Nat)), none, some w5]) kn6 (ea_cons (ed_var (i := 2) (d := .str o) rfl (.str _)) ea_nil) (by rw [hsl]; show 1 ≤ 16777216; decide)) (ed_slT kn6 (ed_var (i := 1) rfl (Dq.upB hRb h1 x06)) (eo_some (K := K) (b := b) (ed_int (i := 1))) (eo_some (K := K) (b := b) (ed_neg (ed_int (i := 1))))) (by rw [hsl]; show 1 + 0 ≤ 16777216; decide)
    refine g_apR (K := K) (b := b) (j := 0) rfl hRb h6 (by rw [List.length_append]; omega) ec fun y H7 x7 h7 hy => q (u1 ++ [y]) H7 (x06.trans x7) (by rw [h7, List.append_assoc]) ?_
    rw [sayR_one]
    exact dps_app (DqAll.upB hRb (DqAll.upB hRb d3 (exb x46)) x7) hy
  | @ite _ vd ss ts hv l1 hs1 l2 hs2 =>
    refine start rfl _ _ fun H1 x1 => ?_
    have t1 := tst (H' := H1) (x := "if") (y := "try") (y3 := some (.int (us.length : Nat))) (y4 := none) (y5 := none) (wk (by decide +kernel)) (wk (by decide +kernel))
    rw [decide_eq_false (by decide +kernel)] at t1
    refine g_ifF t1 fun H2 x2 => ?_
    have x12 := x1.trans x2
    have lv := valR_len C hv
    refine g_em (K := K) (b := b) (i := 0) rfl hRb (kn.up x12) (x12 _ _ hR) (by omega) (vix (x := "if") (z := vd) (wk (by decide +kernel)) rfl (exb x12) rfl) ⟨hs, C, hv⟩ fun u1 H3 x3 h3 d3 => ?_
    have x03 : ExB R H H3 := (exb x12).trans x3
    have l3 := dps_len d3
    have d3 : DqAll K b H3 u1 (valR wd vd) := d3
    have e3 : (us ++ u1).length = us.length + (valR wd vd).length := by rw [List.length_append, l3]
    refine g_set (lenN h3 e3) fun w5 H4 x4 d5 => ?_
    have e5 := dq_int d5
    subst e5
    have x04 : ExB R H H4 := x03.trans (exb x4)
    have t2 := tst (H' := H4) (x := "if") (y := "if") (y3 := some (.int (us.length : Nat))) (y4 := none) (y5 := some (.int ((us.length + (valR wd vd).length : Nat) : Int))) (wk (by decide +kernel)) (wk (by decide +kernel))
    rw [decide_eq_true rfl] at t2
    refine g_sT t2 fun H5 x5 => ?_
    have x45 := x4.trans x5
    have h5 := x45 _ _ h3
    have x05 : ExB R H H5 := x03.trans (exb x45)
    have lo : ∀ st, (saysR (sayR wd n) st ts).length ≤ 6 * sayM wd n := fun st => says_len6 l2 fun s' h' st' => sayR_len C (hs2 s' h') st'
    have lc : ∀ st, (saysR (sayR wd n) st ss).length ≤ 6 * sayM wd n := fun st => says_len6 l1 fun s' h' st' => sayR_len C (hs1 s' h') st'
    refine g_apR (K := K) (b := b) (j := 0) rfl hRb h5 (by omega) ed_non fun y0 H6 x6 h6 _ => ?_
    have x06 := x05.trans x6
    have e6 : ((us ++ u1) ++ [y0]).length = us.length + (valR wd vd).length + 1 := by rw [List.length_append, e3]; rfl
    refine g_em (K := K) (b := b) (i := 0) rfl hRb (knB kn x06 h6) h6 (by omega) (at_ (j := 3) (z := .tuple ts) rfl x06 rfl) ⟨hs, ts, rfl, C, l2, hs2⟩ fun u2 H7 x7 h7 d7 => ?_
    rw [e6] at d7
    have d7 : DqAll K b H7 u2 (saysR (sayR wd n) (us.length + (valR wd vd).length + 1) ts) := d7
    have l7 := dps_len d7
    have x07 := x06.trans x7
    have lo1 := lo (us.length + (valR wd vd).length + 1)
    have e7 : (((us ++ u1) ++ [y0]) ++ u2).length = us.length + (valR wd vd).length + 1 + (saysR (sayR wd n) (us.length + (valR wd vd).length + 1) ts).length := by rw [List.length_append, e6, l7]
    refine g_set (lenN h7 e7) fun w4 H8 x8 d8 => ?_
    have ew := dq_int d8
    subst ew
    have h8 := x8 _ _ h7
    have x08 := x07.trans (exb x8)
    refine g_apR (K := K) (b := b) (j := 0) rfl hRb h8 (by omega) ed_non fun y1 H9 x9 h9 _ => ?_
    have x09 := x08.trans x9
    have e9 : ((((us ++ u1) ++ [y0]) ++ u2) ++ [y1]).length = us.length + (valR wd vd).length + 1 + (saysR (sayR wd n) (us.length + (valR wd vd).length + 1) ts).length + 1 := by rw [List.length_append, e7]; rfl
    have h9' : H9 R = some (.lst ((us ++ u1) ++ y0 :: (u2 ++ [y1]))) := by rw [h9]; simp only [List.append_assoc, List.cons_append, List.nil_append]
    refine g_setIx (K := K) (b := b) (i := 0) (k := us.length + (valR wd vd).length) rfl hRb h9' e3.symm (fun _ _ => ed_vn (j := 5) rfl) (tup2 (x := "if") (knB kn x09 h9) (lenN h9 e9)) fun yi HA xA hA dA => ?_
    have x0A := x09.trans xA
    have eA : ((us ++ u1) ++ yi :: (u2 ++ [y1])).length = us.length + (valR wd vd).length + 1 + (saysR (sayR wd n) (us.length + (valR wd vd).length + 1) ts).length + 1 := by
      rw [List.length_append, e3, List.length_cons, List.length_append, l7]
      show _ + (_ + 1 + 1) = _
      omega
    refine g_em (K := K) (b := b) (i := 0) rfl hRb (knB kn x0A hA) hA (by omega) (at_ (j := 2) (z := .tuple ss) rfl x0A rfl) ⟨hs, ss, rfl, C, l1, hs1⟩ fun u3 HB xB hB dB => ?_
    rw [eA] at dB
    have dB : DqAll K b HB u3 (saysR (sayR wd n) (us.length + (valR wd vd).length + 1 + (saysR (sayR wd n) (us.length + (valR wd vd).length + 1) ts).length + 1) ss) := dB
    have lB := dps_len dB
    have x0B := x0A.trans xB
    have hB' : HB R = some (.lst (((us ++ u1) ++ yi :: u2) ++ y1 :: u3)) := by rw [hB]; simp only [List.append_assoc, List.cons_append, List.nil_append]
    have eB : (((us ++ u1) ++ yi :: (u2 ++ [y1])) ++ u3).length = us.length + (valR wd vd).length + 1 + (saysR (sayR wd n) (us.length + (valR wd vd).length + 1) ts).length + 1 + (saysR (sayR wd n) (us.length + (valR wd vd).length + 1 + (saysR (sayR wd n) (us.length + (valR wd vd).length + 1) ts).length + 1) ss).length := by rw [List.length_append, eA, lB]
    refine g_setIx (K := K) (b := b) (i := 0) (k := us.length + (valR wd vd).length + 1 + (saysR (sayR wd n) (us.length + (valR wd vd).length + 1) ts).length) rfl hRb hB' (by
      rw [List.length_append, e3, List.length_cons, l7]
      omega) (fun _ _ => ed_vn (j := 4) rfl) (tup2 (x := "go") (knB kn x0B hB) (lenN hB eB)) fun yg HC xC hC dC => ?_
    refine q (u1 ++ yi :: (u2 ++ yg :: u3)) HC (x0B.trans xC) (by rw [hC]; simp only [List.append_assoc, List.cons_append, List.nil_append]) ?_
    rw [sayR_ite]
    have up3 : DqAll K b HC u1 (valR wd vd) := DqAll.upB hRb d3 (((((((exb x45).trans x6).trans x7).trans (exb x8)).trans x9).trans xA).trans (xB.trans xC))
    have up7 := DqAll.upB hRb d7 (((exb x8).trans x9).trans (xA.trans (xB.trans xC)))
    exact dps_app up3 (.cons (Dq.upB hRb dA (xB.trans xC)) (dps_app up7 (.cons dC (DqAll.upB hRb dB xC))))
  | @whl _ vd ss hv l1 hs1 =>
    refine start rfl _ _ fun H1 x1 => ?_
    have t1 := tst (H' := H1) (x := "while") (y := "try") (y3 := some (.int (us.length : Nat))) (y4 := none) (y5 := none) (wk (by decide +kernel)) (wk (by decide +kernel))
    rw [decide_eq_false (by decide +kernel)] at t1
    refine g_ifF t1 fun H2 x2 => ?_
    have x12 := x1.trans x2
    have lv := valR_len C hv
    refine g_em (K := K) (b := b) (i := 0) rfl hRb (kn.up x12) (x12 _ _ hR) (by omega) (vix (x := "while") (z := vd) (wk (by decide +kernel)) rfl (exb x12) rfl) ⟨hs, C, hv⟩ fun u1 H3 x3 h3 d3 => ?_
    have x03 : ExB R H H3 := (exb x12).trans x3
    have l3 := dps_len d3
    have d3 : DqAll K b H3 u1 (valR wd vd) := d3
    have e3 : (us ++ u1).length = us.length + (valR wd vd).length := by rw [List.length_append, l3]
    refine g_set (lenN h3 e3) fun w5 H4 x4 d5 => ?_
    have e5 := dq_int d5
    subst e5
    have x04 : ExB R H H4 := x03.trans (exb x4)
    have t2 := tst (H' := H4) (x := "while") (y := "if") (y3 := some (.int (us.length : Nat))) (y4 := none) (y5 := some (.int ((us.length + (valR wd vd).length : Nat) : Int))) (wk (by decide +kernel)) (wk (by decide +kernel))
    rw [decide_eq_false (by decide +kernel)] at t2
    refine g_sF t2 fun H5 x5 => ?_
    have t3 := tst (H' := H5) (x := "while") (y := "while") (y3 := some (.int (us.length : Nat))) (y4 := none) (y5 := some (.int ((us.length + (valR wd vd).length : Nat) : Int))) (wk (by decide +kernel)) (wk (by decide +kernel))
    rw [decide_eq_true rfl] at t3
    refine g_sT t3 fun H6 x6 => ?_
    have x46 := (x4.trans x5).trans x6
    have h6 := x46 _ _ h3
    have x06 : ExB R H H6 := x03.trans (exb x46)
    have kn6 := knB kn x06 h6
    have lc : ∀ st, (saysR (sayR wd n) st ss).length ≤ 6 * sayM wd n := fun st => says_len6 l1 fun s' h' st' => sayR_len C (hs1 s' h') st'
    have lc1 := lc (us.length + (valR wd vd).length + 2)
    have el := el_lst (K := K) (b := b) (σ := [some (.ref R), some v, some (.str "while"), some (.int (us.length : Nat)), none, some (.int ((us.length + (valR wd vd).length : Nat) : Int))]) kn6 (ea_cons (tup2 (x := "if") kn6 (ed_addN (ed_vn (j := 5) rfl) (ed_nat (i := 2)))) (ea_cons ed_non ea_nil)) (by rw [hsl]; show 2 ≤ 16777216; decide)
    refine g_exR (K := K) (b := b) (j := 0) rfl hRb h6 (by show _ + 2 ≤ _; omega) el fun us2 H7 x7 h7 d7 => ?_
    have x07 := x06.trans x7
    cases d7 with
    | @cons yi _ _ _ a1 d7 =>
    cases d7 with
    | @cons y1 _ _ _ a2 d7 =>
    cases d7
    have e7 : ((us ++ u1) ++ [yi, y1]).length = us.length + (valR wd vd).length + 2 := by rw [List.length_append, e3]; rfl
    refine g_em (K := K) (b := b) (i := 0) rfl hRb (knB kn x07 h7) h7 (by omega) (at_ (j := 2) (z := .tuple ss) rfl x07 rfl) ⟨hs, ss, rfl, C, l1, hs1⟩ fun u3 H8 x8 h8 d8 => ?_
    rw [e7] at d8
    have d8 : DqAll K b H8 u3 (saysR (sayR wd n) (us.length + (valR wd vd).length + 2) ss) := d8
    have l8 := dps_len d8
    have x08 := x07.trans x8
    have e8 : (((us ++ u1) ++ [yi, y1]) ++ u3).length = us.length + (valR wd vd).length + 2 + (saysR (sayR wd n) (us.length + (valR wd vd).length + 2) ss).length := by rw [List.length_append, e7, l8]
    refine g_apR (K := K) (b := b) (j := 0) rfl hRb h8 (by omega) (tup2 (x := "go") (knB kn x08 h8) (ed_vn (i := us.length) (j := 3) rfl)) fun yb H9 x9 h9 d9 => ?_
    have x09 := x08.trans x9
    have e9 : ((((us ++ u1) ++ [yi, y1]) ++ u3) ++ [yb]).length = us.length + (valR wd vd).length + 2 + (saysR (sayR wd n) (us.length + (valR wd vd).length + 2) ss).length + 1 := by rw [List.length_append, e8]; rfl
    have h9' : H9 R = some (.lst (((us ++ u1) ++ [yi]) ++ y1 :: (u3 ++ [yb]))) := by rw [h9]; simp only [List.append_assoc, List.cons_append, List.nil_append]
    refine g_setIx (K := K) (b := b) (i := 0) (k := us.length + (valR wd vd).length + 1) rfl hRb h9' (by
      rw [List.length_append, e3]
      rfl) (fun _ _ => ed_addN (ed_vn (j := 5) rfl) (ed_nat (i := 1))) (tup2 (x := "go") (knB kn x09 h9) (lenN h9 e9)) fun yg HA xA hA dA => ?_
    refine q (u1 ++ yi :: (yg :: (u3 ++ [yb]))) HA (x09.trans xA) (by rw [hA]; simp only [List.append_assoc, List.cons_append, List.nil_append]) ?_
    rw [sayR_whl hv.nostr]
    have up3 : DqAll K b HA u1 (valR wd vd) := DqAll.upB hRb d3 ((((exb x46).trans x7).trans x8).trans (x9.trans xA))
    exact dps_app up3 (.cons (Dq.upB hRb a1 (x8.trans (x9.trans xA))) (.cons dA (dps_app (DqAll.upB hRb d8 (x9.trans xA)) (DqAll.upB hRb d9 xA))))
  | @tr _ x ss ts p l1 hs1 l2 hs2 =>
    refine start rfl _ _ fun H1 x1 => ?_
    have t1 := tst (H' := H1) (x := "try") (y := "try") (y3 := some (.int (us.length : Nat))) (y4 := none) (y5 := none) (wk (by decide +kernel)) (wk (by decide +kernel))
    rw [decide_eq_true rfl] at t1
    refine g_ifT t1 fun H2 x2 => ?_
    have x12 := x1.trans x2
    have lo : ∀ st, (saysR (sayR wd n) st ts).length ≤ 6 * sayM wd n := fun st => says_len6 l2 fun s' h' st' => sayR_len C (hs2 s' h') st'
    have lc : ∀ st, (saysR (sayR wd n) st ss).length ≤ 6 * sayM wd n := fun st => says_len6 l1 fun s' h' st' => sayR_len C (hs1 s' h') st'
    have lc1 := lc (us.length + 1)
    refine g_apR (K := K) (b := b) (j := 0) rfl hRb (x12 _ _ hR) (by omega) ed_non fun y0 H3 x3 h3 _ => ?_
    have x03 : ExB R H H3 := (exb x12).trans x3
    have e3 : (us ++ [y0]).length = us.length + 1 := by rw [List.length_append]; rfl
    refine g_em (K := K) (b := b) (i := 0) rfl hRb (knB kn x03 h3) h3 (by omega) (at_ (j := 1) (z := .tuple ss) rfl x03 rfl) ⟨hs, ss, rfl, C, l1, hs1⟩ fun u1 H4 x4 h4 d4 => ?_
    rw [e3] at d4
    have d4 : DqAll K b H4 u1 (saysR (sayR wd n) (us.length + 1) ss) := d4
    have l4 := dps_len d4
    have x04 := x03.trans x4
    have kn4 := knB kn x04 h4
    have e4 : ((us ++ [y0]) ++ u1).length = us.length + 1 + (saysR (sayR wd n) (us.length + 1) ss).length := by rw [List.length_append, e3, l4]
    have el := el_lst (K := K) (b := b) (σ := [some (.ref R), some v, some (.str "try"), some (.int (us.length : Nat)), none, none]) kn4 (ea_cons (ed_tup kn4 (ea_cons (ed_str (x := "done")) ea_nil) (by decide)) (ea_cons ed_non (ea_cons (tup2 (x := "set") kn4 (at_ (j := 2) (z := .str x) rfl x04 rfl)) ea_nil))) (by rw [hsl]; show 3 ≤ 16777216; decide)
    refine g_exR (K := K) (b := b) (j := 0) rfl hRb h4 (by show _ + 3 ≤ _; omega) el fun us3 H5 x5 h5 d5 => ?_
    have x05 := x04.trans x5
    cases d5 with
    | @cons b1 _ _ _ a1 d5 =>
    cases d5 with
    | @cons b2 _ _ _ a2 d5 =>
    cases d5 with
    | @cons b3 _ _ _ a3 d5 =>
    cases d5
    have e5 : (((us ++ [y0]) ++ u1) ++ [b1, b2, b3]).length = us.length + 1 + (saysR (sayR wd n) (us.length + 1) ss).length + 2 + 1 := by rw [List.length_append, e4]; rfl
    have e5' : (((us ++ [y0]) ++ u1) ++ [b1, b2, b3]).length = (us.length + 1 + (saysR (sayR wd n) (us.length + 1) ss).length + 1) + 2 := by omega
    have h5' : H5 R = some (.lst (us ++ y0 :: (u1 ++ [b1, b2, b3]))) := by rw [h5]; simp only [List.append_assoc, List.cons_append, List.nil_append]
    refine g_setIx (K := K) (b := b) (i := 0) (k := us.length) rfl hRb h5' rfl (fun _ _ => ed_vn (j := 3) rfl) (tup2 (x := "try") (knB kn x05 h5) (lenS (m := 1) h5 e5)) fun yt H6 x6 h6 d6 => ?_
    have x06 := x05.trans x6
    have e6 : (us ++ yt :: (u1 ++ [b1, b2, b3])).length = us.length + 1 + (saysR (sayR wd n) (us.length + 1) ss).length + 2 + 1 := by
      rw [List.length_append, List.length_cons, List.length_append, l4]
      show _ + (_ + 3 + 1) = _
      omega
    have e6' : (us ++ yt :: (u1 ++ [b1, b2, b3])).length = (us.length + 1 + (saysR (sayR wd n) (us.length + 1) ss).length + 1) + 2 := by omega
    refine g_set (lenS (m := 2) h6 e6') fun w4 H7 x7 d7 => ?_
    have ew := dq_int d7
    subst ew
    have h7 := x7 _ _ h6
    have x07 := x06.trans (exb x7)
    refine g_em (K := K) (b := b) (i := 0) rfl hRb (knB kn x07 h7) h7 (by omega) (at_ (j := 3) (z := .tuple ts) rfl x07 rfl) ⟨hs, ts, rfl, C, l2, hs2⟩ fun u2 H8 x8 h8 d8 => ?_
    rw [e6] at d8
    have d8 : DqAll K b H8 u2 (saysR (sayR wd n) (us.length + 1 + (saysR (sayR wd n) (us.length + 1) ss).length + 2 + 1) ts) := d8
    have l8 := dps_len d8
    have x08 := x07.trans x8
    have e8 : ((us ++ yt :: (u1 ++ [b1, b2, b3])) ++ u2).length = us.length + 1 + (saysR (sayR wd n) (us.length + 1) ss).length + 2 + 1 + (saysR (sayR wd n) (us.length + 1 + (saysR (sayR wd n) (us.length + 1) ss).length + 2 + 1) ts).length := by rw [List.length_append, e6, l8]
    have h8' : H8 R = some (.lst ((us ++ yt :: (u1 ++ [b1])) ++ b2 :: (b3 :: u2))) := by rw [h8]; simp only [List.append_assoc, List.cons_append, List.nil_append]
    refine g_setIx (K := K) (b := b) (i := 0) (k := us.length + 1 + (saysR (sayR wd n) (us.length + 1) ss).length + 1) rfl hRb h8' (by
      rw [List.length_append, List.length_cons, List.length_append, l4]
      show _ = _ + (_ + 1 + 1)
      omega) (fun _ _ => ed_vn (j := 4) rfl) (tup2 (x := "go") (knB kn x08 h8) (lenN h8 e8)) fun yg H9 x9 h9 d9 => ?_
    refine q (yt :: (u1 ++ (b1 :: (yg :: (b3 :: u2))))) H9 (x08.trans x9) (by rw [h9]; simp only [List.append_assoc, List.cons_append, List.nil_append]) ?_
    have y69 := (exb x7).trans (x8.trans x9)
    have y59 := x6.trans y69
    exact .cons (Dq.upB hRb d6 y69) (dps_app (DqAll.upB hRb d4 (x5.trans y59)) (.cons (Dq.upB hRb a1 y59) (.cons d9 (.cons (Dq.upB hRb a3 y59) (DqAll.upB hRb d8 x9)))))
theorem ok_emit (hw : wd ≤ 4) (D1 : Def K mg "_law_emit_one" s_em1 ["_law_rows_here", "_law_saying_here"] f fd) (De : Def K mg "_law_emit" s_em ["_law_rows_here", "_law_sayings_here"] f2 fd2) (Dv : Def K mg "_law_emit_value" s_emv ["_law_rows_here", "_law_value_here"] f3 fd3) (B : Blt mg) :
    ∀ n, FnOk P w K mg base CX0 (2 * n + 6) f fd ["_law_rows_here", "_law_saying_here"] (spE1 K wd n) ∧ FnOk P w K mg base CX0 (2 * n + 7) f2 fd2 ["_law_rows_here", "_law_sayings_here"] (spEs K wd n)
  | 0 => by
    have a : FnOk P w K mg base CX0 (2 * 0 + 6) f fd ["_law_rows_here", "_law_saying_here"] (spE1 K wd 0) := ⟨fun _ _ _ _ ⟨_, _, _, _, _, _, _, _, _, _, ⟨_, _, h⟩, _⟩ => (by cases h), fun _ _ _ _ _ _ _ _ _ _ _ _ _ ⟨_, _, _, _, _, _, _, _, _, _, ⟨_, _, h⟩, _⟩ => (by cases h)⟩
    exact ⟨a, ok_em_s De D1 a⟩
  | n + 1 => by
    have IH := ok_emit hw D1 De Dv B n
    have a := ok_em_1 hw D1 De IH.2 Dv B
    exact ⟨a, ok_em_s De D1 a⟩
end
end Wr

set_option Elab.async false
set_option linter.all false
set_option maxRecDepth 100000
set_option maxHeartbeats 4000000
namespace Wr
open PySem PySem.Spec PyProof.Rows L2 Evl
def rowsT (w n : Nat) (ss : List PyData) : List PyData := saysR (sayR w n) 0 ss ++ [rw2 "put" (.int 0), rw1 "back"]
def spRw (K : PySem.W.Frag) : Sp := fun vs H Q _ => ∃ (b : List Addr) (v : V) (w n : Nat) (ss : List PyData) (hs : Hds), vs = [v] ∧ w ≤ 4 ∧ n ≤ 4 ∧ Kn b H ∧ Dq K b H v (.tuple ss) ∧ HdC hs ∧ SsP hs w n ss ∧ ∀ u H', Ex H H' → Dq K b H' u (.tuple (rowsT w n ss)) → Q u H'
/-- trees, tuple by tuple -/
def TreeG (c : Nat → Nat → List PyData → Prop) (d : PyData) : Prop := ∃ hs : Hds, HdC hs ∧ (∀ p ∈ hs, p.1 ∈ treeNames) ∧ ∃ ds, d = .tuple ds ∧ ds.length = hs.length ∧ ∀ (i : Nat) x p, ds[i]? = some x → hs[i]? = some p → ∃ (ss : List PyData) (w n : Nat), w ≤ 4 ∧ n ≤ 4 ∧ x = .tuple [.str p.1, .tuple (argN p.2), .tuple ss] ∧ SsP hs w n ss ∧ c w n ss
theorem TreeP.g {d : PyData} (h : TreeP d) : TreeG (fun _ _ _ => True) d := by
  obtain ⟨hs, C, hn, ds, rfl, hl, hR⟩ := h
  refine ⟨hs, C, hn, ds, rfl, hl, fun i x p h1 h2 => ?_⟩
  obtain ⟨ss, dw, hdw, rfl, _, l6, hss⟩ := hR i x p h1 h2
  have dwb : dw.1 ≤ 4 ∧ max dw.2 2 ≤ 4 := by
    have q' : (dwT.all fun dw => decide (dw.1 ≤ 4 ∧ max dw.2 2 ≤ 4)) = true := by decide
    exact of_decide_eq_true (List.all_eq_true.mp q' dw hdw)
  exact ⟨ss, _, _, dwb.2, dwb.1, rfl, ⟨l6, hss⟩, trivial⟩
abbrev s_rowsL : Stmt := topS 37
abbrev s_short : Stmt := topS 38
abbrev NRw : List Str := ["_law_sayings_here", "_law_rows_here"]
abbrev NSh : List Str := ["_law_tree_here", "_law_found", "_law_name", "_law_names", "_law_sayings_here"]
theorem sc_rowsL : FnScope NRw ["_law_sayings_here"] (defScope s_rowsL) := ⟨rfl, rfl, rfl, by decide +kernel, rfl, by decide +kernel, by decide +kernel⟩
theorem sc_short : FnScope NSh ["_law_tree_here"] (defScope s_short) := ⟨rfl, rfl, rfl, by decide +kernel, rfl, by decide +kernel, by decide +kernel⟩
section
variable {K : PySem.W.Frag} {b : List Addr} {σ : L2.St} {H H' : Hp} {ta tb te ti : TE} {t : TA} {ss : List PyData}
theorem ed_rw {E : XK} {w n : Nat} {hs : Hds} (hw : w ≤ 4) (hn : n ≤ 4) (kn : Kn b H) (C : HdC hs) (hs' : SsP hs w n ss) (he : ED K b te σ H (.tuple ss)) : ED K b (tCall (spRw K) [] E (tCons te tNil)) σ H (.tuple (rowsT w n ss)) := fun H1 x1 Q q =>
  he H1 x1 _ fun v H2 x2 hv => ⟨b, v, w, n, ss, hs, rfl, hw, hn, kn.up (x1.trans x2), hv, C, hs', fun u H3 x3 hu => q u H3 (x2.trans x3) hu⟩
end
theorem cut_1 (ys : List PyData) : cutD ys none (some (-1)) = ys.take (ys.length - 1) := by
  unfold cutD
  rw [HT.sIx_none, List.drop_zero, Nat.sub_zero]
  congr 1
  unfold HT.sIx
  simp only [Option.getD]
  first
    | rfl
    | omega
    | (split <;> omega)
section
variable {P : Program} {w : World} {K : PySem.W.Frag} {mg : Str → Option Value} {base : Heap} {f f2 f3 f4 g g2 : Addr} {fd fd2 fd3 fd4 gd gd2 : FuncData}
theorem ok_rowsL (D : Def K mg "_law_rows" s_rowsL ["_law_sayings_here"] f fd) (D1 : Def K mg "_law_emit_one" s_em1 ["_law_rows_here", "_law_saying_here"] f2 fd2) (De : Def K mg "_law_emit" s_em ["_law_rows_here", "_law_sayings_here"] f3 fd3) (Dv : Def K mg "_law_emit_value" s_emv ["_law_rows_here", "_law_value_here"] f4 fd4) (B : Blt mg) : FnOk P w K mg base CX0 16 f fd ["_law_sayings_here"] (spRw K) := by
  refine D.F.ok sc_rowsL (fun vs H Q E ⟨_, _, _, _, _, _, e, _⟩ => by rw [e]; rfl) (fun cdv A outer s H vs Q E hr h => ?_)
  obtain ⟨b, v, wd, n, ss, hs, rfl, hw, hn, kn, h1, C, hss, q⟩ := h
  have Ge := (ok_emit (P := P) (w := w) (base := base) hw D1 De Dv B n).2
  have re : Room (2 * n + 7) _ := hr.mono (by omega)
  refine ⟨_, pss_cons (ps_set (i := 1) sc_rowsL.nd rfl (Or.inl rfl) (pe_lst pa_nil))
    (pss_cons (ps_expr (pe_cd De Ge re (pa_cons (pv 1) (pa_cons (pv 0) pa_nil))))
    (pss_one (ps_ret (pe_callTy call_tupF rfl B.tuple bt_tuple (pa_cons (pe_op op_cat (pv 1) (pe_lst (pa_cons (pe_tupF (pa_cons pe_str (pa_cons pe_int pa_nil))) (pa_cons (pe_tupF (pa_cons pe_str pa_nil)) pa_nil)))) pa_nil))))), ?_⟩
  have hsl : sizeLine = 16777216 := sizeLine_eq
  have hM := sayM_le hw hn
  refine g_lst (K := K) (b := b) (ds := []) kn ea_nil (by decide) fun R vR H4 hR x4 h4 dR => ?_
  cases dR
  have Rb : R ∉ b := kn.new hR
  have hRb : R ∈ R :: b := List.mem_cons_self
  have hvR : Dq K (R :: b) H4 v (.tuple ss) := dp_ex (hid_ex x4) _ _ (Dq.hide h1 hR)
  have knR : Kn (R :: b) H4 := fun c hc z => by
    rcases List.mem_cons.mp hc with rfl | hc
    · rw [h4] at z; cases z
    · exact (kn.up x4) c hc z
  refine g_em (K := K) (b := R :: b) (us := []) (i := 1) rfl hRb knR h4 (by show 0 + _ ≤ _; omega) (ed_var (i := 0) rfl hvR) ⟨hs, ss, rfl, C, hss⟩ fun u1 H5 x5 h5 d5 => ?_
  have h5 : H5 R = some (.lst u1) := h5
  have d5 : DqAll K (R :: b) H5 u1 (saysR (sayR wd n) 0 ss) := d5
  have l5 := dps_len d5
  have lo := says_len6 (st := 0) hss.1 fun s' h' st' => sayR_len C (hss.2 s' h') st'
  have xx : Ex H H5 := fun c o z => by
    have cR : c ≠ R := fun e => by rw [e, hR] at z; cases z
    exact x5 _ _ cR (x4 _ _ z)
  have kn5 := kn.up xx
  have ea := ea_cons (K := K) (b := b) (σ := [some v, some (.ref R)]) (ed_tup kn5 (ea_cons (ed_str (x := "put")) (ea_cons (ed_int (i := 0)) ea_nil)) (by rw [hsl]; show 2 ≤ 16777216; decide)) (ea_cons (ed_tup kn5 (ea_cons (ed_str (x := "back")) ea_nil) (by decide)) ea_nil)
  refine ⟨.ref R, rfl, ea H5 (Ex.refl H5) _ fun us2 H6 x6 d6 => ⟨by rw [dps_len d6, hsl]; show 2 ≤ 16777216; decide, fun p hp => ⟨R, p, u1, us2, rfl, rfl, Ex.new hp _ _ (x6 _ _ h5), upd_same, ?_, fun p2 hp2 => ⟨p2, _, rfl, .inl (.inl upd_same), fun l o hl ho => ?_⟩⟩⟩⟩
  · rw [dps_len d6, l5, hsl]
    show _ + 2 ≤ _
    omega
  · have x56 := x6.trans ((Ex.new (o := HO.lst us2) hp).trans (Ex.new (o := HO.lst (u1 ++ us2)) hp2))
    have dd : DqAll K b (upd (upd H6 p (.lst us2)) p2 (.lst (u1 ++ us2))) (u1 ++ us2) (rowsT wd n ss) := dps_app (DqAll.up (dps_ex show_ex _ _ d5) x56) (DqAll.up d6 ((Ex.new hp).trans (Ex.new hp2)))
    exact q _ _ ((xx.trans x56).trans (Ex.new hl)) (dq_newT (kn5.up x56) hl ho dd)
end
end Wr

set_option Elab.async false
set_option linter.all false
set_option maxRecDepth 100000
set_option maxHeartbeats 4000000
namespace Wr
open PySem PySem.Spec PyProof.Rows L2 Evl
/-! ### a tree's tuple, seen -/
structure TV where
  x : Str
  k : Nat
  ss : List PyData
  w : Nat
  n : Nat
def TV.d (t : TV) : PyData := .tuple [.str t.x, .tuple (argN t.k), .tuple t.ss]
def TV.rows (t : TV) : List PyData := rowsT t.w t.n t.ss
def TV.p (t : TV) : PyData := .tuple [.str t.x, .tuple (argN t.k), .tuple t.rows]
def wnT : List (Nat × Nat) := [(3, 2), (2, 3), (2, 2), (4, 1), (2, 4), (4, 2)]
structure TVok (hs : Hds) (t : TV) : Prop where
  wn : (t.w, t.n) ∈ wnT
  w4 : t.w ≤ 4
  n4 : t.n ≤ 4
  k3 : t.k ≤ 3
  nm : t.x ∈ treeNames
  ss : SsP hs t.w t.n t.ss
structure TrV (hs : Hds) (ts : List TV) : Prop where
  C : HdC hs
  l6 : ts.length ≤ 6
  ok : ∀ t ∈ ts, TVok hs t
theorem tv_list {hs : Hds} (C : HdC hs) (hn : ∀ p ∈ hs, p.1 ∈ treeNames) : ∀ {ds : List PyData} {qs : Hds}, (∀ p ∈ qs, p ∈ hs) → ds.length = qs.length → (∀ (i : Nat) x p, ds[i]? = some x → qs[i]? = some p → TupP hs p x) → ∃ ts : List TV, ds = ts.map TV.d ∧ ts.length = ds.length ∧ ∀ t ∈ ts, TVok hs t
  | [], [], _, _, _ => ⟨[], rfl, rfl, fun t h => nomatch h⟩
  | [], _ :: _, _, h, _ => by cases h
  | _ :: _, [], _, h, _ => by cases h
  | x :: ds, p :: qs, hq, hl, hR => by
    obtain ⟨ss, dw, hdw, rfl, _, l6, hss⟩ := hR 0 x p rfl rfl
    have dwb : dw.1 ≤ 4 ∧ max dw.2 2 ≤ 4 := by
      have q' : (dwT.all fun dw => decide (dw.1 ≤ 4 ∧ max dw.2 2 ≤ 4)) = true := by decide
      exact of_decide_eq_true (List.all_eq_true.mp q' dw hdw)
    obtain ⟨ts, e, el, ht⟩ := tv_list C hn (ds := ds) (qs := qs) (fun p' h' => hq p' (List.mem_cons_of_mem _ h')) (by simpa using hl) fun i x' p' h1 h2 => hR (i + 1) x' p' h1 h2
    have dwn : (max dw.2 2, dw.1) ∈ wnT := by
      have q' : (dwT.all fun dw => decide ((max dw.2 2, dw.1) ∈ wnT)) = true := by decide
      exact of_decide_eq_true (List.all_eq_true.mp q' dw hdw)
    refine ⟨⟨p.1, p.2, ss, max dw.2 2, dw.1⟩ :: ts, by rw [e]; rfl, by rw [List.length_cons, List.length_cons, el], fun t h => ?_⟩
    rcases List.mem_cons.mp h with rfl | h
    · exact ⟨dwn, dwb.2, dwb.1, C.le p (hq p List.mem_cons_self), hn p (hq p List.mem_cons_self), l6, hss⟩
    · exact ht t h
theorem tree_view {d : PyData} (h : TreeP d) : ∃ hs ts, d = .tuple (ts.map TV.d) ∧ TrV hs ts ∧ ts ≠ [] := by
  obtain ⟨hs, C, hn, ds, rfl, hl, hR⟩ := h
  obtain ⟨ts, e, el, ht⟩ := tv_list C hn (fun p h => h) hl hR
  have l6 := C.l6
  refine ⟨hs, ts, by rw [e], ⟨C, by omega, ht⟩, fun e0 => ?_⟩
  rw [e0] at el
  have h0 : hs.length = 0 := by rw [← hl, ← el]; rfl
  exact C.l0 (List.length_eq_zero_iff.mp h0)
theorem dq_td {K : PySem.W.Frag} {H : Hp} {v : V} {t : TV} (h : Dd K H v t.d) : ∃ a v1 v2 v3, v = .ref a ∧ SqT K H a [v1, v2, v3] ∧ Dd K H v1 (.str t.x) ∧ Dd K H v2 (.tuple (argN t.k)) ∧ Dd K H v3 (.tuple t.ss) := by
  unfold TV.d at h
  cases h with
  | tup h1 _ h2 =>
    cases h2 with
    | cons a1 h2 =>
      cases h2 with
      | cons a2 h2 =>
        cases h2 with
        | cons a3 h2 =>
          cases h2
          exact ⟨_, _, _, _, rfl, h1, a1, a2, a3⟩
/-! ### the tree cut short -/
def spSh (K : PySem.W.Frag) : Sp := fun vs H Q _ => ∃ (b : List Addr) (v : V) (hs : Hds) (ts : List TV), vs = [v] ∧ Kn b H ∧ Dq K b H v (.tuple (ts.map TV.d)) ∧ TrV hs ts ∧ ∀ u ts' H', Ex H H' → Dq K b H' u (.tuple (ts'.map TV.d)) → TrV hs ts' → ts'.length = ts.length → (∀ t ∈ ts', t.rows.length ≤ 60) → Q u H'
theorem SsP.take {hs : Hds} {w n : Nat} {ss : List PyData} (h : SsP hs w n ss) (m : Nat) : SsP hs w n (ss.take m) := ⟨Nat.le_trans (List.length_take_le' m ss) h.1, fun s hs' => h.2 s (List.mem_of_mem_take hs')⟩
section
variable {P : Program} {w : World} {K : PySem.W.Frag} {mg : Str → Option Value} {base : Heap} {f f2 f3 f4 g g2 : Addr} {fd fd2 fd3 fd4 gd gd2 : FuncData}
theorem ok_short (D : Def K mg "_law_short" s_short ["_law_tree_here"] f fd) (Dr : Def K mg "_law_rows" s_rowsL ["_law_sayings_here"] f2 fd2) (Gr : FnOk P w K mg base CX0 16 f2 fd2 ["_law_sayings_here"] (spRw K)) (B : Blt mg) : FnOk P w K mg base CX0 17 f fd ["_law_tree_here"] (spSh K) := by
  refine D.F.ok sc_short (fun vs H Q E ⟨_, _, _, _, e, _⟩ => by rw [e]; rfl) (fun cdv A outer s H vs Q E hr h => ?_)
  obtain ⟨b, v, hs, ts, rfl, kn, h1, T, q⟩ := h
  refine ⟨_, pss_cons (ps_set (i := 1) sc_short.nd rfl (Or.inl rfl) (pe_lst pa_nil))
    (pss_cons (ps_for PassesOwn.never rfl (pi_tup (pv 0)) (pg_tup rfl (pgs_cons (pg_name (i := 2) sc_short.nd rfl (Or.inl rfl)) (pgs_cons (pg_name (i := 3) sc_short.nd rfl (Or.inl rfl)) (pgs_cons (pg_name (i := 4) sc_short.nd rfl (Or.inl rfl)) pgs_nil))))
      (pss_cons (ps_while PassesOwn.never (pt_cmpR op_gt (pe_callB call_lenD1 rfl B.len bb_len (pa_cons (pe_cd Dr Gr hr (pa_cons (pv 4) pa_nil)) pa_nil)) pe_int (nomark _)) (pss_one (ps_set (i := 4) sc_short.nd rfl (Or.inl rfl) (pe_slice sl_tupF (pv 4) po_none (po_some (pe_un un_neg pe_int))))))
      (pss_one (ps_expr (pe_bm PySem.F.plainAttrs_list PySem.F.slot_list_append PySem.F.type_list_append mt_append (pv 1) (pa_cons (pe_tupF (pa_cons (pv 2) (pa_cons (pv 3) (pa_cons (pv 4) pa_nil)))) pa_nil))))))
    (pss_one (ps_ret (pe_callTy call_tupF rfl B.tuple bt_tuple (pa_cons (pv 1) pa_nil))))), ?_⟩
  have hsl : sizeLine = 16777216 := sizeLine_eq
  refine g_lst (K := K) (b := b) (ds := []) kn ea_nil (by decide) fun F vF H4 hF x4 h4 dF => ?_
  cases dF
  have Fb : F ∉ b := kn.new hF
  have hFb : F ∈ F :: b := List.mem_cons_self
  have hvF : Dq K (F :: b) H4 v (.tuple (ts.map TV.d)) := dp_ex (hid_ex x4) _ _ (Dq.hide h1 hF)
  cases hvF with
  | @tup at0 xs _ g1 gN g2 =>
  have lxs := dps_len g2
  rw [List.length_map] at lxs
  have l6 := T.l6
  refine ⟨.ref at0, rfl, at0, rfl, ⟨_, ex_t hid_le g1⟩, ?_⟩
  have knF : ∀ {H' : Hp} {o : HO}, ExB F H4 H' → H' F = some o → Kn (F :: b) H' := fun {H' o} hg hF' => knB (fun c hc z => by
    rcases List.mem_cons.mp hc with rfl | hc
    · rw [h4] at z; cases z
    · exact (kn.up x4) c hc z) hg hF'
  refine for_it walk_tup (fun i σ' H' => (∃ y2 y3 y4, σ' = [some (.ref at0), some (.ref F), y2, y3, y4]) ∧ ExB F H4 H' ∧ ∃ (vs : List V) (ts' : List TV), H' F = some (.lst vs) ∧ DqAll K (F :: b) H' vs (ts'.map TV.d) ∧ ts'.length = i ∧ ∀ t ∈ ts', TVok hs t ∧ t.rows.length ≤ 60) ⟨⟨none, none, none, rfl⟩, ExB.refl F H4, [], [], h4, .nil, rfl, fun t h => nomatch h⟩ (fun i σ' H' _ p => ex_t hid_le (ex_t (hid_exB hFb p.2.1) g1)) ?_ ?_
  · intro i y σ' H' Hx hi ⟨⟨y2, y3, y4, eσ⟩, hg, vs, ts', hF', dvs, lts, hts⟩ ⟨eH, hy⟩
    subst eσ eH
    obtain ⟨e, hei, de⟩ := dps_at g2 hy
    obtain ⟨t, hti, ed⟩ : ∃ t, ts[i]? = some t ∧ e = t.d := by
      rw [List.getElem?_map] at hei
      cases z : ts[i]? with
      | none => rw [z] at hei; cases hei
      | some t =>
        rw [z] at hei
        exact ⟨t, rfl, (Option.some.inj hei).symm⟩
    subst ed
    have ht := T.ok t (List.mem_of_getElem? hti)
    obtain ⟨a2, v1, vn, vr, rfl, k1, k2, k3, k4⟩ := dq_td (dp_ex (hid_exB hFb hg) _ _ de)
    refine ⟨a2, [v1, vn, vr], rfl, ex_t hid_le k1, rfl, v1, [vn, vr], rfl, vn, [vr], rfl, vr, [], rfl, rfl, ?_⟩
    have knx := knF hg hF'
    refine ⟨fun m σ0 H0 => ∃ v', σ0 = [some (.ref at0), some (.ref F), some v1, some vn, some v'] ∧ Ex Hx H0 ∧ m ≤ t.ss.length ∧ Dq K (F :: b) H0 v' (.tuple (t.ss.take m)), ⟨t.ss.length, vr, rfl, Ex.refl Hx, Nat.le_refl _, by rw [List.take_of_length_le (Nat.le_refl _)]; exact k4⟩, ?_⟩
    rintro m σ0 H0 ⟨v', rfl, x0, hm, dv'⟩
    have ls : (t.ss.take m).length = m := by rw [List.length_take]; omega
    have hss := SsP.take ht.ss m
    have rw_ := ed_rw (K := K) (b := F :: b) (E := E0) (σ := [some (.ref at0), some (.ref F), some v1, some vn, some v']) ht.w4 ht.n4 (knx.up x0) T.C hss (ed_var (i := 4) rfl dv')
    have tt := et_t (ed_gt (ed_len rw_ (.inr (.inr rfl)) fun y e => by cases e) (ed_int (i := 60)))
    refine tt H0 (Ex.refl H0) _ fun H1 x1 => ?_
    have el : (lenD (.tuple (rowsT t.w t.n (t.ss.take m))) : Nat) = (rowsT t.w t.n (t.ss.take m)).length := rfl
    rw [el]
    by_cases hlen : (60 : Int) < (((rowsT t.w t.n (t.ss.take m)).length : Nat) : Int)
    · rw [decide_eq_true hlen, if_pos rfl]
      have hm0 : 0 < m := by
        rcases Nat.eq_zero_or_pos m with e0 | e0
        · rw [e0] at hlen
          have : (rowsT t.w t.n (t.ss.take 0)).length = 2 := rfl
          omega
        · exact e0
      refine ⟨fun σ1 H2 => ∃ v', σ1 = [some (.ref at0), some (.ref F), some v1, some vn, some v'] ∧ Ex Hx H2 ∧ Dq K (F :: b) H2 v' (.tuple (t.ss.take (m - 1))), fun σ1 H2 ⟨v2, e1, e2, e3⟩ => ⟨m - 1, by omega, v2, e1, e2, by omega, e3⟩, ?_⟩
      have sl := ed_slT (K := K) (b := F :: b) (knx.up (x0.trans x1)) (ed_var (σ := [some (.ref at0), some (.ref F), some v1, some vn, some v']) (i := 4) rfl (Dq.up dv' x1)) eo_none (eo_some (K := K) (b := F :: b) (ed_neg (ed_int (i := 1))))
      have ec : cutD (t.ss.take m) none (some (-1)) = t.ss.take (m - 1) := by
        rw [cut_1, ls, List.take_take, Nat.min_eq_left (by omega)]
      rw [ec] at sl
      exact g_setN sl fun w4 H2 x2 d4 => ⟨w4, rfl, (x0.trans x1).trans x2, d4⟩
    · rw [decide_eq_false hlen, if_neg Bool.false_ne_true]
      have x01 := x0.trans x1
      have xF : ExB F H4 H1 := hg.trans (exb x01)
      have kn1 := knx.up x01
      obtain ⟨t', et'⟩ : ∃ t' : TV, t' = ⟨t.x, t.k, t.ss.take m, t.w, t.n⟩ := ⟨_, rfl⟩
      have etup := ed_tup (K := K) (b := F :: b) (σ := [some (.ref at0), some (.ref F), some v1, some vn, some v']) kn1 (ea_cons (ed_var (i := 2) rfl (Dq.up k2 x01)) (ea_cons (ed_var (i := 3) rfl (Dq.up k3 x01)) (ea_cons (ed_var (i := 4) rfl (Dq.up dv' x1)) ea_nil))) (by rw [hsl]; show 3 ≤ 16777216; decide)
      have lvs := dps_len dvs
      rw [List.length_map] at lvs
      have hi' : i < ts.length := by omega
      refine g_apR (K := K) (b := F :: b) (j := 1) rfl hFb (x01 _ _ hF') (by omega) etup fun y H2 x2 h2 dy => ⟨⟨_, _, _, rfl⟩, xF.trans x2, vs ++ [y], ts' ++ [t'], h2, ?_, ?_, fun t0 h0 => ?_⟩
      · rw [List.map_append]
        have : [t'].map TV.d = [.tuple [.str t.x, .tuple (argN t.k), .tuple (t.ss.take m)]] := by rw [et']; rfl
        rw [this]
        exact dps_app (DqAll.upB hFb (DqAll.up dvs x01) x2) dy
      · rw [List.length_append, lts]
        rfl
      · rcases List.mem_append.mp h0 with h0 | h0
        · exact hts t0 h0
        · rw [List.mem_singleton.mp h0, et']
          refine ⟨⟨ht.wn, ht.w4, ht.n4, ht.k3, ht.nm, hss⟩, ?_⟩
          show (rowsT t.w t.n (t.ss.take m)).length ≤ 60
          omega
  · intro σ' H' ⟨⟨y2, y3, y4, eσ⟩, hg, vs, ts', hF', dvs, lts, hts⟩
    subst eσ
    have xx : Ex H H' := fun c o z => by
      have cF : c ≠ F := fun e => by rw [e, hF] at z; cases z
      exact hg _ _ cF (x4 _ _ z)
    refine ⟨.ref F, rfl, F, vs, rfl, .inl (.inl hF'), fun l o hl ho => ?_⟩
    exact q _ ts' _ (xx.trans (Ex.new hl)) (dq_newT (kn.up xx) hl ho (dps_ex show_ex _ _ dvs)) ⟨T.C, by omega, fun t h => (hts t h).1⟩ (by omega) fun t h => (hts t h).2
end
end Wr

set_option Elab.async false
set_option linter.all false
set_option maxRecDepth 100000
set_option maxHeartbeats 4000000
namespace Wr
open PySem PySem.Spec PyProof.Rows L2 Evl
/-! ### made, where no part is too long -/
theorem ps_off {X : Cx} {st : Stmt} : PS X st (fun _ _ _ => False) := ⟨fun _ _ _ _ _ _ h => h.elim⟩
abbrev s_made : Stmt := topS 17
abbrev s_mpart : Stmt := topS 18
abbrev NMp : List Str := ["name", "names", "sayings", "rows"]
abbrev NMd : List Str := ["tree", "name", "names", "sayings"]
theorem sc_mpart : FnScope NMp ["name", "names", "sayings"] (defScope s_mpart) := ⟨rfl, rfl, rfl, by decide +kernel, rfl, by decide +kernel, by decide +kernel⟩
theorem sc_made : FnScope NMd ["tree"] (defScope s_made) := ⟨rfl, rfl, rfl, by decide +kernel, rfl, by decide +kernel, by decide +kernel⟩
def spMp (K : PySem.W.Frag) : Sp := fun vs H Q _ => ∃ (b : List Addr) (v1 v2 v3 : V) (t : TV) (hs : Hds), vs = [v1, v2, v3] ∧ Kn b H ∧ Dq K b H v1 (.str t.x) ∧ Dq K b H v2 (.tuple (argN t.k)) ∧ Dq K b H v3 (.tuple t.ss) ∧ HdC hs ∧ TVok hs t ∧ t.rows.length ≤ 60 ∧ ∀ u H', Ex H H' → Dq K b H' u t.p → Q u H'
def spMd (K : PySem.W.Frag) : Sp := fun vs H Q _ => ∃ (b : List Addr) (v : V) (ts : List TV) (hs : Hds), vs = [v] ∧ Kn b H ∧ Dq K b H v (.tuple (ts.map TV.d)) ∧ TrV hs ts ∧ (∀ t ∈ ts, t.rows.length ≤ 60) ∧ ∀ u H', Ex H H' → Dq K b H' u (.tuple (ts.map TV.p)) → Q u H'
section
variable {P : Program} {w : World} {K : PySem.W.Frag} {mg : Str → Option Value} {base : Heap} {f f2 f3 f4 f5 f6 f7 g g2 : Addr} {fd fd2 fd3 fd4 fd5 fd6 fd7 gd gd2 : FuncData} {tk : Tok}
theorem ok_mpart (D : Def K mg "made_part" s_mpart ["name", "names", "sayings"] f fd) (Ds : Def K mg "sayings_rows" s_ssrows ["sayings", "start"] f2 fd2) (Dr : Def K mg "saying_rows" s_srows ["saying", "start"] f3 fd3) (Dv : Def K mg "value_rows" s_vrows ["value"] f4 fd4) (Di : Def K mg "if_rows" s_ifrows ["value", "first", "second", "start"] f5 fd5) (Dw : Def K mg "while_rows" s_whrows ["value", "sayings", "start"] f6 fd6) (Dt : Def K mg "try_rows" s_trrows ["first", "name", "second", "start"] f7 fd7) (B : Blt mg) (hm : mg "MOST_PART_ROWS" = some (.int 60 tk)) :
    FnOk P w K mg base CX0 21 f fd ["name", "names", "sayings"] (spMp K) := by
  refine D.F.ok sc_mpart (fun vs H Q E ⟨_, _, _, _, _, _, e, _⟩ => by rw [e]; rfl) (fun cdv A outer s H vs Q E hr h => ?_)
  obtain ⟨b, v1, v2, v3, t, hs, rfl, kn, h1, h2, h3, C, ht, h60, q⟩ := h
  have Gs := (ok_rows (P := P) (w := w) (base := base) ht.w4 Dr Ds Dv Di Dw Dt B t.n ht.n4).2
  have hn4 := ht.n4
  have rs : Room (3 * t.n + 8) _ := hr.mono (by omega)
  refine ⟨_, pss_cons (ps_set (i := 3) sc_mpart.nd rfl (Or.inl rfl) (pe_lst (StX.pa_star (pe_cd Ds Gs rs (pa_cons (pv 2) (pa_cons pe_int pa_nil))) (pa_cons (pe_tupF (pa_cons pe_str (pa_cons pe_int pa_nil))) (pa_cons (pe_tupF (pa_cons pe_str pa_nil)) pa_nil)))))
    (pss_cons (ps_if (pt_cmpR op_gt (pe_callB call_lenD1 rfl B.len bb_len (pa_cons (pv 3) pa_nil)) (pe_gI hm) (nomark _)) (pss_one ps_off) pss_nil)
    (pss_one (ps_ret (pe_tupF (pa_cons (pv 0) (pa_cons (pv 1) (pa_cons (pe_callTy call_tupF rfl B.tuple bt_tuple (pa_cons (pv 3) pa_nil)) pa_nil))))))), ?_⟩
  have hsl : sizeLine = 16777216 := sizeLine_eq
  have el := (el_call (K := K) (b := b) (σ := [some v1, some v2, some v3, none]) (pre := SSpre t.w t.n) (f := fun ds => saysR (sayR t.w t.n) (stN (ds.getD 1 .none)) (tupL (ds.headD .none))) (E := E0) kn (ea_cons (ed_var (i := 2) rfl h3) (ea_cons (ed_nat (i := 0)) ea_nil)) ⟨t.ss, hs, 0, rfl, C, ht.ss⟩).ed kn
  have ea := ea_star el (ea_cons (ed_tup kn (ea_cons (ed_str (x := "put")) (ea_cons (ed_int (i := 0)) ea_nil)) (by rw [hsl]; show 2 ≤ 16777216; decide)) (ea_cons (ed_tup kn (ea_cons (ed_str (x := "back")) ea_nil) (by decide)) ea_nil))
  have ea : EA K b _ _ H t.rows := ea
  refine g_lst (K := K) (b := b) (ds := t.rows) kn ea (by omega) fun R us H1 hR x1 h1' dus => ?_
  have kn1 := kn.up x1
  have lus := dps_len dus
  have dR : Dq K b H1 (.ref R) (.list t.rows) := .lst (.inl (.inl (by rw [hid_ne (kn.new hR)]; exact h1'))) dus
  have tt := et_t (ed_gt (K := K) (b := b) (ed_lenV (σ := [some v1, some v2, some v3, some (.ref R)]) (j := 3) rfl dR) (ed_int (i := 60)))
  rw [decide_eq_false (by omega)] at tt
  refine g_ifF tt fun H2 x2 => ?_
  have x12 := x1.trans x2
  have kn2 := kn.up x12
  refine ⟨v1, rfl, v2, rfl, .ref R, rfl, R, us, rfl, .inl (.inl (x2 _ _ h1')), fun l o hl ho => ⟨by rw [hsl]; show 3 ≤ 16777216; decide, fun p o' hp ho' => ?_⟩⟩
  have xl := Ex.new (o := HO.frz o (.tup us)) hl
  have dl : Dq K b (upd H2 l (.frz o (.tup us))) (.ref l) (.tuple t.rows) := dq_newT kn2 hl ho (DqAll.up dus x2)
  have x2l := x12.trans xl
  exact q _ _ (x2l.trans (Ex.new hp)) (dq_newT (kn.up x2l) hp ho' (.cons (Dq.up h1 x2l) (.cons (Dq.up h2 x2l) (.cons dl .nil))))
theorem ok_made (D : Def K mg "made" s_made ["tree"] f fd) (Dp : Def K mg "made_part" s_mpart ["name", "names", "sayings"] f2 fd2) (Gp : FnOk P w K mg base CX0 21 f2 fd2 ["name", "names", "sayings"] (spMp K)) (B : Blt mg) : FnOk P w K mg base CX0 22 f fd ["tree"] (spMd K) := by
  refine D.F.ok sc_made (fun vs H Q E ⟨_, _, _, _, e, _⟩ => by rw [e]; rfl) (fun cdv A outer s H vs Q E hr h => ?_)
  obtain ⟨b, v, ts, hs, rfl, kn, h1, T, h60, q⟩ := h
  refine ⟨_, pss_one (ps_ret (pe_callTy call_tupF rfl B.tuple bt_tuple (pa_cons (pe_lc (own := [("name", 1), ("names", 2), ("sayings", 3)]) (g := gTup K 3 (gCons (gName 1) (gCons (gName 2) (gCons (gName 3) gNil)))) (tt := tYes) rfl sc_made.nd (pi_tup (pv 0)) (blkOk_by (N := NMd) (sc := defScope s_made) (by decide +kernel))
    (fun _ _ _ _ _ => pg_tup rfl (pgs_cons (pg_name (i := 1) sc_made.nd rfl (Or.inl rfl)) (pgs_cons (pg_name (i := 2) sc_made.nd rfl (Or.inl rfl)) (pgs_cons (pg_name (i := 3) sc_made.nd rfl (Or.inl rfl)) pgs_nil)))) (fun _ _ _ _ _ => pts_nil)
    (fun _ _ _ _ _ => pe_cd Dp Gp hr (pa_cons (pv 1) (pa_cons (pv 2) (pa_cons (pv 3) pa_nil))))) pa_nil))), ?_⟩
  have hsl : sizeLine = 16777216 := sizeLine_eq
  cases h1 with
  | @tup at0 xs _ g1 gN g2 =>
  have lxs := dps_len g2
  rw [List.length_map] at lxs
  have l6 := T.l6
  refine ⟨.ref at0, rfl, at0, rfl, ⟨_, ex_t hid_le g1⟩, fun Dl hD => ?_⟩
  have Db : Dl ∉ b := kn.new hD
  refine lc_it walk_tup (fun i H3 => Ex H H3 ∧ ∃ us, H3 Dl = some (.lst us) ∧ DqAll K (Dl :: b) H3 us ((ts.take i).map TV.p)) ⟨Ex.new hD, [], upd_same, .nil⟩ (fun i H3 _ p => ex_t p.1 (ex_t hid_le g1)) ?_ ?_
  · intro i x H3 H3' hi ⟨x3, us, e1, e2⟩ ⟨eH, hx⟩
    subst eH
    obtain ⟨e, hei, de⟩ := dps_at g2 hx
    obtain ⟨t, hti, ed⟩ : ∃ t, ts[i]? = some t ∧ e = t.d := by
      rw [List.getElem?_map] at hei
      cases z : ts[i]? with
      | none => rw [z] at hei; cases hei
      | some t =>
        rw [z] at hei
        exact ⟨t, rfl, (Option.some.inj hei).symm⟩
    subst ed
    have htm := List.mem_of_getElem? hti
    have dx : Dq K (Dl :: b) H3' x t.d := dp_ex (hid_ex x3) _ _ (Dq.hide de hD)
    obtain ⟨a2, v1, vn, vr, rfl, k1, k2, k3, k4⟩ := dq_td dx
    refine ⟨a2, [v1, vn, vr], rfl, ex_t hid_le k1, rfl, v1, [vn, vr], rfl, vn, [vr], rfl, vr, [], rfl, rfl, rfl, ?_⟩
    refine et_yes (H := H3') _ (Ex.refl _) _ fun H4 x4 => ?_
    rw [if_pos rfl]
    have kn4 : Kn (Dl :: b) H4 := fun z hz' => by
      rcases List.mem_cons.mp hz' with rfl | hz'
      · rw [x4 _ _ e1]; intro q; cases q
      · exact (kn.up x3).up x4 z hz'
    refine ⟨v1, rfl, vn, rfl, vr, rfl, Dl :: b, v1, vn, vr, t, hs, rfl, kn4, Dq.up k2 x4, Dq.up k3 x4, Dq.up k4 x4, T.C, T.ok t htm, h60 t htm, fun u H5 x5 du => ?_⟩
    have lus := dps_len e2
    rw [List.length_map, List.length_take] at lus
    refine ⟨us, x5 _ _ (x4 _ _ e1), by omega, Ex.mut (x3.trans (x4.trans x5)) hD, us ++ [u], upd_same, ?_⟩
    rw [List.take_add_one, hti, List.map_append]
    exact dps_ex put_ex _ _ (dps_app (DqAll.up e2 (x4.trans x5)) (.cons du .nil))
  · intro H3 ⟨x3, us, e1, e2⟩
    rw [lxs, List.take_of_length_le (Nat.le_refl _)] at e2
    refine ⟨Dl, us, rfl, .inl (.inl e1), fun l o hl ho => ?_⟩
    exact q _ _ (x3.trans (Ex.new hl)) (dq_newT (kn.up x3) hl ho (dps_ex show_ex _ _ e2))
end
end Wr

set_option Elab.async false
set_option linter.all false
set_option maxRecDepth 100000
set_option maxHeartbeats 4000000
namespace Wr
open PySem PySem.Spec PyProof.Rows L2 Evl
/-! ### what is due of a tree -/
def longV (ts : List TV) : Option TV := ts.find? fun t => decide (60 < t.rows.length)
def dueD (ts : List TV) : PyData := match longV ts with
  | some t => .int (t.rows.length : Nat)
  | none => .tuple (ts.map TV.p)
theorem long_at {ts : List TV} {i : Nat} {t : TV} (h : ts[i]? = some t) (hl : 60 < t.rows.length) (hb : ∀ t' ∈ ts.take i, t'.rows.length ≤ 60) : longV ts = some t := by
  obtain ⟨hi, e⟩ := List.getElem?_eq_some_iff.mp h
  unfold longV
  have e1 : ts = ts.take i ++ ts.drop i := (List.take_append_drop i ts).symm
  rw [e1, List.find?_append]
  have e2 : (ts.take i).find? (fun t => decide (60 < t.rows.length)) = none := List.find?_eq_none.mpr fun t' h' => by
    have := hb t' h'
    simp only [decide_eq_true_eq]
    omega
  rw [e2, List.drop_eq_getElem_cons hi, e]
  rw [Option.none_or, List.find?_cons_of_pos (by simpa using hl)]
theorem long_no {ts : List TV} (hb : ∀ t' ∈ ts, t'.rows.length ≤ 60) : longV ts = none := List.find?_eq_none.mpr fun t' h' => by
  have := hb t' h'
  simp only [decide_eq_true_eq]
  omega
def spDue (K : PySem.W.Frag) : Sp := fun vs H Q _ => ∃ (b : List Addr) (v : V) (hs : Hds) (ts : List TV), vs = [v] ∧ Kn b H ∧ Dq K b H v (.tuple (ts.map TV.d)) ∧ TrV hs ts ∧ ∀ u H', Ex H H' → Dq K b H' u (dueD ts) → Q u H'
abbrev s_due : Stmt := topS 40
abbrev NDu : List Str := ["_law_tree_here", "_law_found", "_law_name", "_law_names", "_law_sayings_here", "_law_rows_here"]
theorem sc_due : FnScope NDu ["_law_tree_here"] (defScope s_due) := ⟨rfl, rfl, rfl, by decide +kernel, rfl, by decide +kernel, by decide +kernel⟩
section
variable {P : Program} {w : World} {K : PySem.W.Frag} {mg : Str → Option Value} {base : Heap} {f f2 f3 f4 g g2 : Addr} {fd fd2 fd3 fd4 gd gd2 : FuncData}
theorem ok_due (D : Def K mg "_law_due" s_due ["_law_tree_here"] f fd) (Dr : Def K mg "_law_rows" s_rowsL ["_law_sayings_here"] f2 fd2) (Gr : FnOk P w K mg base CX0 16 f2 fd2 ["_law_sayings_here"] (spRw K)) (B : Blt mg) : FnOk P w K mg base CX0 17 f fd ["_law_tree_here"] (spDue K) := by
  refine D.F.ok sc_due (fun vs H Q E ⟨_, _, _, _, e, _⟩ => by rw [e]; rfl) (fun cdv A outer s H vs Q E hr h => ?_)
  obtain ⟨b, v, hs, ts, rfl, kn, h1, T, q⟩ := h
  refine ⟨_, pss_cons (ps_set (i := 1) sc_due.nd rfl (Or.inl rfl) (pe_lst pa_nil))
    (pss_cons (ps_for PassesOwn.never rfl (pi_tup (pv 0)) (pg_tup rfl (pgs_cons (pg_name (i := 2) sc_due.nd rfl (Or.inl rfl)) (pgs_cons (pg_name (i := 3) sc_due.nd rfl (Or.inl rfl)) (pgs_cons (pg_name (i := 4) sc_due.nd rfl (Or.inl rfl)) pgs_nil))))
      (pss_cons (ps_set (i := 5) sc_due.nd rfl (Or.inl rfl) (pe_cd Dr Gr hr (pa_cons (pv 4) pa_nil)))
      (pss_cons (ps_if (pt_cmpR op_gt (pe_callB call_lenD1 rfl B.len bb_len (pa_cons (pv 5) pa_nil)) pe_int (nomark _)) (pss_one (ps_ret (pe_callB call_lenD1 rfl B.len bb_len (pa_cons (pv 5) pa_nil)))) pss_nil)
      (pss_one (ps_expr (pe_bm PySem.F.plainAttrs_list PySem.F.slot_list_append PySem.F.type_list_append mt_append (pv 1) (pa_cons (pe_tupF (pa_cons (pv 2) (pa_cons (pv 3) (pa_cons (pv 5) pa_nil)))) pa_nil)))))))
    (pss_one (ps_ret (pe_callTy call_tupF rfl B.tuple bt_tuple (pa_cons (pv 1) pa_nil))))), ?_⟩
  have hsl : sizeLine = 16777216 := sizeLine_eq
  refine g_lst (K := K) (b := b) (ds := []) kn ea_nil (by decide) fun F vF H4 hF x4 h4 dF => ?_
  cases dF
  have Fb : F ∉ b := kn.new hF
  have hFb : F ∈ F :: b := List.mem_cons_self
  have hvF : Dq K (F :: b) H4 v (.tuple (ts.map TV.d)) := dp_ex (hid_ex x4) _ _ (Dq.hide h1 hF)
  cases hvF with
  | @tup at0 xs _ g1 gN g2 =>
  have lxs := dps_len g2
  rw [List.length_map] at lxs
  have l6 := T.l6
  refine ⟨.ref at0, rfl, at0, rfl, ⟨_, ex_t hid_le g1⟩, ?_⟩
  have knF : ∀ {H' : Hp} {o : HO}, ExB F H4 H' → H' F = some o → Kn (F :: b) H' := fun {H' o} hg hF' => knB (fun c hc z => by
    rcases List.mem_cons.mp hc with rfl | hc
    · rw [h4] at z; cases z
    · exact (kn.up x4) c hc z) hg hF'
  have xx : ∀ {H' : Hp}, ExB F H4 H' → Ex H H' := fun {H'} hg c o z => by
    have cF : c ≠ F := fun e => by rw [e, hF] at z; cases z
    exact hg _ _ cF (x4 _ _ z)
  refine for_it walk_tup (fun i σ' H' => (∃ y2 y3 y4 y5, σ' = [some (.ref at0), some (.ref F), y2, y3, y4, y5]) ∧ ExB F H4 H' ∧ (∀ t ∈ ts.take i, t.rows.length ≤ 60) ∧ ∃ vs : List V, H' F = some (.lst vs) ∧ DqAll K (F :: b) H' vs ((ts.take i).map TV.p)) ⟨⟨none, none, none, none, rfl⟩, ExB.refl F H4, (fun t h => by simp at h), [], h4, .nil⟩ (fun i σ' H' _ p => ex_t hid_le (ex_t (hid_exB hFb p.2.1) g1)) ?_ ?_
  · intro i y σ' H' Hx hi ⟨⟨y2, y3, y4, y5, eσ⟩, hg, hb60, vs, hF', dvs⟩ ⟨eH, hy⟩
    subst eσ eH
    obtain ⟨e, hei, de⟩ := dps_at g2 hy
    obtain ⟨t, hti, ed⟩ : ∃ t, ts[i]? = some t ∧ e = t.d := by
      rw [List.getElem?_map] at hei
      cases z : ts[i]? with
      | none => rw [z] at hei; cases hei
      | some t =>
        rw [z] at hei
        exact ⟨t, rfl, (Option.some.inj hei).symm⟩
    subst ed
    have ht := T.ok t (List.mem_of_getElem? hti)
    obtain ⟨a2, v1, vn, vr, rfl, k1, k2, k3, k4⟩ := dq_td (dp_ex (hid_exB hFb hg) _ _ de)
    refine ⟨a2, [v1, vn, vr], rfl, ex_t hid_le k1, rfl, v1, [vn, vr], rfl, vn, [vr], rfl, vr, [], rfl, rfl, ?_⟩
    have knx := knF hg hF'
    refine g_set (ed_rw (K := K) (b := F :: b) (E := E0) (σ := [some (.ref at0), some (.ref F), some v1, some vn, some vr, y5]) ht.w4 ht.n4 knx T.C ht.ss (ed_var (i := 4) rfl k4)) fun w5 H1 x1 d5 => ?_
    have d5 : Dq K (F :: b) H1 w5 (.tuple t.rows) := d5
    have ln : ∀ {H' : Hp}, Ex H1 H' → ED K (F :: b) (tCB (rLen K) (tCons (tVar 5) tNil)) [some (.ref at0), some (.ref F), some v1, some vn, some vr, some w5] H' (.int (t.rows.length : Nat)) := fun {H'} x' => ed_len (ed_var (i := 5) rfl (Dq.up d5 x')) (.inr (.inr rfl)) fun y e => by cases e
    have tt := et_t (ed_gt (ln (Ex.refl H1)) (ed_int (i := 60)))
    by_cases hlen : (60 : Int) < ((t.rows.length : Nat) : Int)
    · rw [decide_eq_true hlen] at tt
      refine g_ifT tt fun H2 x2 => ?_
      refine (ln x2) H2 (Ex.refl H2) _ fun u H3 x3 du => ?_
      have eu := dq_int du
      subst eu
      refine q _ H3 (xx (hg.trans (exb ((x1.trans x2).trans x3)))) ?_
      unfold dueD
      rw [long_at hti (by omega) hb60]
      exact .int _
    · rw [decide_eq_false hlen] at tt
      refine g_ifF tt fun H2 x2 => ?_
      have x12 := x1.trans x2
      have kn2 := knx.up x12
      have etup := ed_tup (K := K) (b := F :: b) (σ := [some (.ref at0), some (.ref F), some v1, some vn, some vr, some w5]) kn2 (ea_cons (ed_var (i := 2) rfl (Dq.up k2 x12)) (ea_cons (ed_var (i := 3) rfl (Dq.up k3 x12)) (ea_cons (ed_var (i := 5) rfl (Dq.up d5 x2)) ea_nil))) (by rw [hsl]; show 3 ≤ 16777216; decide)
      have lvs := dps_len dvs
      rw [List.length_map, List.length_take] at lvs
      refine g_apR (K := K) (b := F :: b) (j := 1) rfl hFb (x12 _ _ hF') (by omega) etup fun y H3 x3 h3 dy => ⟨⟨_, _, _, _, rfl⟩, hg.trans ((exb x12).trans x3), fun t0 h0 => ?_, vs ++ [y], h3, ?_⟩
      · rw [List.take_add_one, hti] at h0
        rcases List.mem_append.mp h0 with h0 | h0
        · exact hb60 t0 h0
        · have e0 : t0 = t := by simpa using h0
          rw [e0]
          omega
      · rw [List.take_add_one, hti, List.map_append]
        exact dps_app (DqAll.upB hFb (DqAll.up dvs x12) x3) dy
  · intro σ' H' ⟨⟨y2, y3, y4, y5, eσ⟩, hg, hb60, vs, hF', dvs⟩
    subst eσ
    rw [lxs, List.take_of_length_le (Nat.le_refl _)] at dvs hb60
    refine ⟨.ref F, rfl, F, vs, rfl, .inl (.inl hF'), fun l o hl ho => ?_⟩
    refine q _ _ ((xx hg).trans (Ex.new hl)) ?_
    unfold dueD
    rw [long_no hb60]
    exact dq_newT (kn.up (xx hg)) hl ho (dps_ex show_ex _ _ dvs)
end
end Wr

set_option Elab.async false
set_option linter.all false
set_option maxRecDepth 100000
set_option maxHeartbeats 4000000
namespace Wr
open PySem PySem.Spec PyProof.Rows L2 Evl
/-! ### how long trees are when shown -/
def moreW : List Str := ["name", "call", "if", "while", "try", "set", "put", "get", "go", "done", "back"]
def allW : List Str := (opsW ++ nxyzW) ++ (oneW ++ treeNames) ++ moreW
theorem shW {x : Str} (h : x ∈ allW) : (reprText x).length ≤ 10 := by
  have q : (allW.all fun x => decide ((reprText x).length ≤ 10)) = true := by decide +kernel
  exact of_decide_eq_true (List.all_eq_true.mp q x h)
theorem sh_str' (x : Str) : (PyData.str x).shown = reprText x := by simp only [PyData.shown]
theorem sh_tup1 {c : PyData} {m : Nat} (h : c.shown.length ≤ m) : (PyData.tuple [c]).shown.length ≤ m + 5 := by
  have := tupleText_len_le (PyData.shownAll [c])
  simp only [PyData.shown, PyData.shownAll, List.map_cons, List.map_nil, List.sum_cons, List.sum_nil, List.length_cons, List.length_nil] at this ⊢
  omega
theorem sh_tup2 {c d : PyData} : (PyData.tuple [c, d]).shown.length ≤ c.shown.length + d.shown.length + 7 := by
  have := tupleText_len_le (PyData.shownAll [c, d])
  simp only [PyData.shown, PyData.shownAll, List.map_cons, List.map_nil, List.sum_cons, List.sum_nil, List.length_cons, List.length_nil] at this ⊢
  omega
theorem sh_tup3 {c d e : PyData} : (PyData.tuple [c, d, e]).shown.length ≤ c.shown.length + d.shown.length + e.shown.length + 9 := by
  have := tupleText_len_le (PyData.shownAll [c, d, e])
  simp only [PyData.shown, PyData.shownAll, List.map_cons, List.map_nil, List.sum_cons, List.sum_nil, List.length_cons, List.length_nil] at this ⊢
  omega
theorem sh_tup4 {c d e f : PyData} : (PyData.tuple [c, d, e, f]).shown.length ≤ c.shown.length + d.shown.length + e.shown.length + f.shown.length + 11 := by
  have := tupleText_len_le (PyData.shownAll [c, d, e, f])
  simp only [PyData.shown, PyData.shownAll, List.map_cons, List.map_nil, List.sum_cons, List.sum_nil, List.length_cons, List.length_nil] at this ⊢
  omega
theorem shAll_le {m : Nat} : ∀ {ds : List PyData}, (∀ d ∈ ds, d.shown.length ≤ m) → ((PyData.shownAll ds).map (·.length)).sum ≤ ds.length * m ∧ (PyData.shownAll ds).length = ds.length
  | [], _ => by simp [PyData.shownAll]
  | d :: ds, h => by
    have h1 := h d List.mem_cons_self
    have ⟨h2, h3⟩ := shAll_le (ds := ds) fun e he => h e (List.mem_cons_of_mem _ he)
    simp only [PyData.shownAll, List.map_cons, List.sum_cons, List.length_cons, h3, Nat.add_mul, Nat.one_mul]
    exact ⟨by omega, trivial⟩
theorem sh_tupN {m : Nat} {ds : List PyData} (h : ∀ d ∈ ds, d.shown.length ≤ m) : (PyData.tuple ds).shown.length ≤ ds.length * (m + 2) + 3 := by
  have q := tupleText_len_le (PyData.shownAll ds)
  obtain ⟨h1, h2⟩ := shAll_le h
  simp only [PyData.shown]
  rw [h2] at q
  rw [Nat.mul_add]
  omega
theorem sh_worth {d : PyData} (h : worthD d = true) : d.shown.length ≤ 14 := by
  unfold worthD at h
  split at h
  · rename_i i
    rw [Bool.and_eq_true] at h
    have h1 := of_decide_eq_true h.1
    have h2 := of_decide_eq_true h.2
    have hb : i.natAbs < 10 ^ 13 := Nat.lt_of_le_of_lt (show i.natAbs ≤ 1000000000000 by omega) (by decide)
    have := int_text_length_le10 (k := 13) (by decide) hb
    simp only [PyData.shown]
    rw [PySem.ofString_length]
    exact this
  · cases h
def vSh : Nat → Nat
  | 0 => 0
  | n + 1 => 3 * vSh n + 38
theorem mem_allW {x : Str} (h : x ∈ opsW ∨ x ∈ nxyzW ∨ x ∈ oneW ∨ x ∈ treeNames) : x ∈ allW := by
  unfold allW
  rcases h with h | h | h | h
  · exact List.mem_append_left _ (List.mem_append_left _ (List.mem_append_left _ h))
  · exact List.mem_append_left _ (List.mem_append_left _ (List.mem_append_right _ h))
  · exact List.mem_append_left _ (List.mem_append_right _ (List.mem_append_left _ h))
  · exact List.mem_append_left _ (List.mem_append_right _ (List.mem_append_right _ h))
theorem ValP.sh {hs : Hds} (C : HdC hs) (hn : ∀ p ∈ hs, p.1 ∈ treeNames) {n : Nat} {d : PyData} (h : ValP hs n d) : d.shown.length ≤ vSh n := by
  induction h with
  | num p =>
    have := sh_worth p
    unfold vSh
    omega
  | @name n x p =>
    have h1 := shW (x := "name") (by decide +kernel)
    have h2 := shW (mem_allW (.inr (.inl p)))
    have := sh_tup2 (c := .str "name") (d := .str x)
    rw [sh_str', sh_str'] at this
    unfold vSh
    omega
  | @op n o c e p _ _ i1 i2 =>
    have h1 := shW (mem_allW (.inl p))
    have := sh_tup3 (c := .str o) (d := c) (e := e)
    rw [sh_str'] at this
    unfold vSh
    omega
  | @call n x ds p _ ih =>
    have h1 := shW (x := "call") (by decide +kernel)
    have h2 := shW (mem_allW (.inr (.inr (.inr (hn _ p)))))
    have h3 : ds.length ≤ 3 := C.le _ p
    have h4 := sh_tupN ih
    have h5 : ds.length * (vSh n + 2) ≤ 3 * (vSh n + 2) := Nat.mul_le_mul_right _ h3
    have := sh_tup3 (c := .str "call") (d := .str x) (e := .tuple ds)
    rw [sh_str', sh_str'] at this
    unfold vSh
    have h2' : (reprText x).length ≤ 10 := h2
    omega
def sSh (w : Nat) : Nat → Nat
  | 0 => 0
  | n + 1 => 12 * sSh w n + vSh w + 90
theorem sh_says {m : Nat} {ss : List PyData} (l6 : ss.length ≤ 6) (h : ∀ s ∈ ss, s.shown.length ≤ m) : (PyData.tuple ss).shown.length ≤ 6 * m + 15 := by
  have h1 := sh_tupN h
  have h2 : ss.length * (m + 2) ≤ 6 * (m + 2) := Nat.mul_le_mul_right _ l6
  omega
theorem SayP.sh {hs : Hds} (C : HdC hs) (hn : ∀ p ∈ hs, p.1 ∈ treeNames) {w n : Nat} {d : PyData} (h : SayP hs w n d) : d.shown.length ≤ sSh w n := by
  induction h with
  | @set n x v p q =>
    have h1 := shW (x := "set") (by decide +kernel)
    have h2 := shW (mem_allW (.inr (.inl p)))
    have h3 := q.sh C hn
    have := sh_tup3 (c := .str "set") (d := .str x) (e := v)
    rw [sh_str', sh_str'] at this
    unfold sSh
    omega
  | @one n o v p q =>
    have h2 := shW (mem_allW (.inr (.inr (.inl p))))
    have h3 := q.sh C hn
    have := sh_tup2 (c := .str o) (d := v)
    rw [sh_str'] at this
    unfold sSh
    omega
  | @ite n v ss ts q l1 _ l2 _ i1 i2 =>
    have h1 := shW (x := "if") (by decide +kernel)
    have h3 := q.sh C hn
    have h4 := sh_says l1 i1
    have h5 := sh_says l2 i2
    have := sh_tup4 (c := .str "if") (d := v) (e := .tuple ss) (f := .tuple ts)
    rw [sh_str'] at this
    unfold sSh
    omega
  | @whl n v ss q l1 _ i1 =>
    have h1 := shW (x := "while") (by decide +kernel)
    have h3 := q.sh C hn
    have h4 := sh_says l1 i1
    have := sh_tup3 (c := .str "while") (d := v) (e := .tuple ss)
    rw [sh_str'] at this
    unfold sSh
    omega
  | @tr n x ss ts p l1 _ l2 _ i1 i2 =>
    have h1 := shW (x := "try") (by decide +kernel)
    have h2 := shW (mem_allW (.inr (.inl p)))
    have h4 := sh_says l1 i1
    have h5 := sh_says l2 i2
    have := sh_tup4 (c := .str "try") (d := .tuple ss) (e := .str x) (f := .tuple ts)
    rw [sh_str', sh_str'] at this
    unfold sSh
    omega
theorem sSh_le {w n : Nat} (h : (w, n) ∈ wnT) : sSh w n ≤ 460000 := by
  have q : (wnT.all fun p => decide (sSh p.1 p.2 ≤ 460000)) = true := by decide +kernel
  exact of_decide_eq_true (List.all_eq_true.mp q (w, n) h)
theorem argN_sh {k : Nat} : (PyData.tuple (argN k)).shown.length ≤ 39 := by
  have h : ∀ d ∈ argN k, d.shown.length ≤ 10 := fun d hd => by
    obtain ⟨x, hx, rfl⟩ := List.mem_map.mp hd
    rw [sh_str']
    have hx' : x ∈ argW := List.mem_of_mem_take hx
    have q : (argW.all fun x => decide ((reprText x).length ≤ 10)) = true := by decide +kernel
    exact of_decide_eq_true (List.all_eq_true.mp q x hx')
  have h1 := sh_tupN h
  have h2 : (argN k).length ≤ 3 := by
    unfold argN
    rw [List.length_map, List.length_take]
    show min k 3 ≤ 3
    omega
  have h3 : (argN k).length * (10 + 2) ≤ 3 * (10 + 2) := Nat.mul_le_mul_right _ h2
  omega
theorem tree_sh {hs : Hds} {ts : List TV} (T : TrV hs ts) (hn : ∀ p ∈ hs, p.1 ∈ treeNames) : (PyData.tuple (ts.map TV.d)).shown.length ≤ 16700000 := by
  have h : ∀ d ∈ ts.map TV.d, d.shown.length ≤ 2760100 := fun d hd => by
    obtain ⟨t, ht, rfl⟩ := List.mem_map.mp hd
    have ok := T.ok t ht
    have h1 := shW (mem_allW (.inr (.inr (.inr ok.nm))))
    have h2 := argN_sh (k := t.k)
    have h3 := sh_says ok.ss.1 fun s hs' => (ok.ss.2 s hs').sh T.C hn
    have h4 := sSh_le ok.wn
    have := sh_tup3 (c := .str t.x) (d := .tuple (argN t.k)) (e := .tuple t.ss)
    rw [sh_str'] at this
    unfold TV.d
    omega
  have h1 := sh_tupN h
  rw [List.length_map] at h1
  have h2 : ts.length * (2760100 + 2) ≤ 6 * (2760100 + 2) := Nat.mul_le_mul_right _ T.l6
  omega
end Wr

set_option Elab.async false
set_option linter.all false
set_option maxRecDepth 100000
set_option maxHeartbeats 4000000
namespace Wr
open PySem PySem.Spec PyProof.Rows L2
/-! ### an exception that leaves a list comprehension -/
def Past (M : Model) (A : Around) (E : Value → Shared → Prop) (Q : Value → Shared → Prop) (acc : Value) (ce : Env) (r : Result) (s' : Shared) : Prop :=
  match r with
  | .ok _ => ∃ m, s'.heap.Ns ce.locals m ∧ ∀ h', Heap.SameBut ce.locals s'.heap h' → Q acc { s' with heap := h' }
  | .error x => ∃ m, s'.heap.Ns ce.locals m ∧ ∀ h', Heap.SameBut ce.locals s'.heap h' → wpAny M A (passOn "comprehension.variables-let-go" x ce : Sem Value) (fun _ _ => False) E { s' with heap := h' }
theorem comp_open {M : Model} {A : Around} {E : Value → Shared → Prop} {s : Shared} {env : Env} {e : Expr} {scope : Scope} {pos : Pos} {newAcc first : Sem Value} {g : Comprehension} {gs : List Comprehension} {cl : List (Str × Addr)} {Q : Value → Shared → Prop}
    (hcl : clausesOf e = g :: gs) (hs : ∀ x, foldedSetIterable g.iter env x = pure x) (hclos : closureFor scope env = pure cl) (hkind : scope.kind = .function) (hnames : ∀ x ∈ scope.names, x.2 = .local → scope.names.lookup x.1 = some .local)
    (h : wpAny M A first (fun x s₁ => wpAny M A (pyIter x) (fun it s₂ => wpAny M A newAcc (fun acc s₃ => wpAny M A (newFunctionEnv scope env.globals cl [] env.qual none .none (some env)) (fun cenv s₄ =>
      codeAny M A (.compStart e 0 it acc { cenv with scope := relabel scope env }) (Past M A E Q acc { cenv with scope := relabel scope env }) s₄) E s₃) E s₂) E s₁) E s) :
    wpAny M A (comprehension e scope env pos newAcc false first none) Q E s := by
  unfold comprehension
  rw [hclos, hcl]
  have up : ∀ {α : Type} {t : Sem α} {Q1 Q2 : α → Shared → Prop} {s'}, wpAny M A t Q1 E s' → (∀ a s, Q1 a s → Q2 a s) → wpAny M A t Q2 E s' := fun h k => wpAny_mono h k fun _ _ z => z
  refine wpAny_bind (up h fun x s₁ h₁ => wpAny_bind (wpAny_standAt (wpAny_bind (wpAny_of_eq (hs x) (wpAny_bind (wpAny_holding (up h₁ fun it s₂ h₂ => ?_)))))))
  refine wpAny_standIf (wpAny_bind (up h₂ fun acc s₃ h₃ => wpAny_bind (wpAny_pure (wpAny_bind (up h₃ fun cenv s₄ h₄ => ?_)))))
  dsimp only
  have hv : ∀ x ∈ (scope.names.filter fun x => (x.2 == .local || x.2 == .cell) && x.1 != (".0" : Str)).reverse, x.2 = .local → Env.kindOf { cenv with scope := relabel scope env } x.1 = some .local :=
    fun x hx hl => lookup_relabel_local (hnames x (List.mem_filter.mp (List.mem_reverse.mp hx)).1 hl)
  refine wpAny_holding (wpAny_bind (wpAny_attempt (wpAny_holding (wpAny_run (codeAny_mono h₄ fun r s' hr => ?_)))))
  cases r with
  | ok f =>
    obtain ⟨m, hn, hr⟩ := hr
    exact wpAny_bind (wpAny_holding (wpAny_comp_letGo (cenv := { cenv with scope := relabel scope env }) hkind _ s' m hv hn fun h' m' _ hs' => wpAny_pure (hr h' hs')))
  | error x =>
    obtain ⟨m, hn, hr⟩ := hr
    exact wpAny_bind (wpAny_holding (wpAny_comp_letGo (cenv := { cenv with scope := relabel scope env }) hkind _ s' m hv hn fun h' m' _ hs' => wpAny_mono (hr h' hs') (fun _ _ f => f.elim) fun _ _ y => y))
theorem note_env {x : Value} {e e' : Env} (h : e.frame = e'.frame) : noteFrame x e = noteFrame x e' := by
  unfold noteFrame PySem.frameOf
  rw [h]
/-- noted here, however it came -/
theorem Sky.note {M : Model} {A : Around} {E₁ : Value → Shared → Prop} {s : Shared} {B : Heap} {env : Env} {outer : List Env} {L a : Addr} {Z : Obj → Prop} {Q : Unit → Shared → Prop} (hZ : HandSPX.Steady Z) (hfr : A.frames = some (env :: outer)) (hf : env.frame = some L)
    (x : Sky B (env :: outer) a Z L s.heap) (hQ : ∀ h', HandSPX.HeldZ B (env :: outer) a Z L h' → s.heap.UpToSlots h' → Q () { s with heap := h' }) : wpAny M A (noteFrame (.ref a) env) Q E₁ s := by
  rcases x with ⟨hB, hn, hl, oe, vs, he, hz, hd, h1⟩ | fl | hh
  · exact HandSPX.look_newZ hZ hfr hl hf he hB hn hd h1 hz hQ
  · exact HandSPX.looks_onZ hZ hfr hf fl hQ
  · exact HandSPX.againZ hf hh.2.2.2 (hQ s.heap hh (Heap.UpToSlots.refl _))
theorem frames_but {h h' B B' : Heap} {C : Addr} (sb : ∀ b, b ≠ C → h'.get? b = h.get? b) (hB : ∀ b, B.get? b = none → B'.get? b = none) : ∀ {l : List Env}, C ∉ frs l → h.FunFrames B l → h'.FunFrames B' l
  | [], _, _ => trivial
  | env :: l, hC, ⟨hk, ⟨L, o, hf, hn, ho, hd⟩, hr⟩ => by
    have hL : L ∈ frs (env :: l) := List.mem_filterMap.mpr ⟨env, List.mem_cons_self, hf⟩
    refine ⟨hk, ⟨L, o, hf, hB L hn, (sb L fun z => hC (z ▸ hL)).trans ho, hd⟩, frames_but sb hB (fun hm => hC ?_) hr⟩
    obtain ⟨e, he, q⟩ := List.mem_filterMap.mp hm
    exact List.mem_filterMap.mpr ⟨e, List.mem_cons_of_mem _ he, q⟩
section
variable {X : Cx} {pins : List (Addr × Obj)} {σ : L2.St} {H : Hp} {s s' : Shared} {Eb : XK}
theorem call_out {Q : Value → Shared → Prop} {acc u : Value} {ce : Env} {m : Str → Option Value} (hs : X.stack = X.env :: X.outer) (hf : X.env.frame = some X.env.locals) (tk : Takes X fun cls d _ H => Eb cls d H) (I : L2.Inv X pins σ H s)
    (c : L2.CX X.prog X.w X.stack H s Eb u s') (fC : FpOk X pins H ce.locals) (hn : s.heap.Ns ce.locals m) (hce : ce.frame = X.env.frame) :
    notedBy (model X.prog X.w) X.A ce (fun e s'' => Past (model X.prog X.w) X.A X.xe Q acc ce (.error e) s'') u s' := by
  obtain ⟨a, B, H', cls, d, rfl, fl, hok, ub, na, os, ag, hE⟩ := c
  generalize hC : ce.locals = C at fC hn
  obtain ⟨oC, es, ep, gC, dC, sk, nf⟩ := hn
  have nfr : C ∉ frs X.stack := fun hm => (List.mem_cons.mp (I.stkSub C hm)).elim fC.2.1 fC.2.2.1
  have BC := ub.keep C oC gC fC.1 nfr
  have sC := fl.1 C oC BC
  have H'C := ub.free C oC gC fC.1
  have ndat : ∀ vs, oC.data ≠ .fields vs := fun vs z => by rw [dC] at z; cases z
  have hfr : X.A.frames = some (X.env :: X.outer) := by rw [I.ok.frames, hs]
  rw [hs] at fl
  unfold notedBy
  rw [note_env hce]
  refine Sky.note Zc.steady hfr hf (.inr (.inl fl)) fun h1 hh up => ?_
  obtain ⟨sl, e1⟩ := up C oC sC ndat
  refine ⟨m, ⟨{ oC with slots := sl }, es, ep, by rw [hC]; exact e1, dC, sk, nf⟩, fun h2 sb => ?_⟩
  rw [hC] at sb
  obtain ⟨b1, b2, b3, oe, vs, T, oT, ts, he, hz, hd, hv1, hnT, hTe, hT, hdT, ht3⟩ := hh
  have aC : a ≠ C := fun z => by
    rw [z, e1] at he
    cases he
    exact ndat vs hd
  have tC : T ≠ C := fun z => by
    rw [z, e1] at hT
    cases hT
    exact ndat ts hdT
  -- the ground without the block's dict
  obtain ⟨G, g1, g2⟩ := restrict s'.heap fun b => decide (b ≠ C) && ((B.get? b).isSome || decide (b ∈ frs X.stack))
  have st : B.StaysIn s'.heap := fl.1
  have og : ∀ b o, G.get? b = some o → b ≠ C ∧ s'.heap.get? b = some o ∧ ((B.get? b).isSome = true ∨ b ∈ frs X.stack) := fun b o e => by
    cases q : (decide (b ≠ C) && ((B.get? b).isSome || decide (b ∈ frs X.stack))) with
    | false => rw [g2 b q] at e; cases e
    | true =>
      rw [g1 b q] at e
      rw [Bool.and_eq_true, Bool.or_eq_true] at q
      exact ⟨of_decide_eq_true q.1, e, q.2.imp id of_decide_eq_true⟩
  have gB : ∀ b o, b ≠ C → B.get? b = some o → G.get? b = some o := fun b o ne e => by
    rw [g1 b (by simp [ne, e])]
    exact st b o e
  have gF : ∀ b, b ∈ frs X.stack → G.get? b = s'.heap.get? b := fun b hb => g1 b (by
    have ne : b ≠ C := fun z => nfr (z ▸ hb)
    simp [ne, hb])
  have J : L2.Inv X pins σ H' { s with heap := G, gens := s'.gens, drawn := s'.drawn, toks := s'.toks } := by
    have ne : ∀ {b : Addr}, b ∉ [C] → b ≠ C := fun h z => h (z ▸ List.mem_singleton.mpr rfl)
    refine I.call (ch := [C]) ⟨fun b o e n hb hx => gB b o (ne hx) (ub.keep b o e n hb), fun b o e n hb hx => ?_, fun b o e n hx => ub.free b o e n, fun b o e hx => ?_, ub.tups, ub.frzs, ub.tbls⟩ (fun b o q => (hok b o q).stay (fun c v hc r => gB c v (fun z => ?_) r) (fun _ r => r) fun _ _ r => r) ag (fun b hb => ?_)
    · obtain ⟨sl, q⟩ := ub.slot b o e hb
      exact ⟨sl, by rw [gF b hb]; exact q⟩
    · by_cases hb : b ∈ frs X.stack
      · obtain ⟨sl, q⟩ := ub.slot b o e hb
        exact ⟨_, by rw [gF b hb]; exact q⟩
      · obtain ⟨o', q⟩ := ub.there b o e hb
        exact ⟨o', gB b o' (ne hx) q⟩
    · rcases hc with hc | hc
      · rw [← hc, z, H'C] at q
        cases q
      · rw [z, H'C] at hc
        cases hc
    · rw [List.mem_singleton.mp hb]
      exact ⟨fC.2.2.2.1, fC.2.1, fC.2.2.2.2.1, fC.2.2.2.2.2⟩
  have hB : ∀ b, B.get? b = none → (PySem.W.hideAll B [C]).get? b = none := fun b e => by
    cases q : (PySem.W.hideAll B [C]).get? b with
    | none => rfl
    | some o => rw [PySem.W.of_hideAll _ q] at e; cases e
  have ofB : ∀ b o, (PySem.W.hideAll B [C]).get? b = some o → b ≠ C ∧ B.get? b = some o := fun b o q => by
    refine ⟨fun z => ?_, PySem.W.of_hideAll _ q⟩
    rw [z, PySem.W.hideAll_none [C] (List.mem_singleton.mpr rfl)] at q
    cases q
  unfold PySem.passOn
  refine wpAny_bind (wpAny_field ((sb.2 a aC).trans he) hd hv1 ?_)
  rw [if_neg (show ¬ ((Value.ref T == Value.none) = true) from by simp)]
  have fin : wpAny (model X.prog X.w) X.A (setFlight (.ref a) ce.frame) (fun _ s4 => wpAny (model X.prog X.w) X.A (throw (.ref a) : Sem Value) (fun _ _ => False) X.xe s4) X.xe { s' with heap := h2 } := by
    rw [hce, hf]
    have hCf : C ∉ frs (X.env :: X.outer) := hs ▸ nfr
    refine HandSPX.setFlight_anyZ (base := PySem.W.hideAll B [C]) (l := X.env :: X.outer) (Z := Zc cls d) (fl := rawInt X.env.locals) (fun b o q => ?_) (frames_but sb.2 hB hCf b3) ⟨oe, vs, T, oT, ts, (sb.2 a aC).trans he, hz, hd, hv1, hB T hnT, hTe, (sb.2 T tC).trans hT, hdT, ht3⟩ fun h3 k1 k2 k3 k4 => wpAny_throw (tk _ _ ?_)
    · obtain ⟨q1, q2⟩ := ofB b o q
      exact (sb.2 b q1).trans (b1 b o q2)
    · refine ⟨a, PySem.W.hideAll B [C], _, pins, σ, H', cls, d, rfl, J, fun b o e hb => ?_, fun b o e hnf => ?_, .inr (.inr ⟨k1, hB a b2, by rw [hs]; exact k2, k3⟩), na, os, ag, hE⟩
      · obtain ⟨q1, q2, q3⟩ := og b o e
        refine PySem.W.hideAll_get _ ?_ fun z => q1 (List.mem_singleton.mp z)
        rcases q3 with q3 | q3
        · obtain ⟨o', q⟩ := Option.isSome_iff_exists.mp q3
          have z := st b o' q
          rw [q2] at z
          cases z
          exact q
        · exact absurd q3 hb
      · obtain ⟨q1, q2, _⟩ := og b o e
        obtain ⟨sl1, z1⟩ := up b o q2 hnf
        obtain ⟨sl2, z2⟩ := k4 b _ ((sb.2 b q1).trans z1) hnf
        exact ⟨sl2, z2⟩
  first
    | exact wpAny_bind (wpAny_pure (wpAny_bind fin))
    | exact wpAny_bind fin
/-- [e for .. in ..], the element may raise -/
theorem pe_lcX {elt tg iter : Expr} {ifs : List Expr} {scope : Scope} {own : List (Str × Nat)} {pos : Pos} {wi : TI} {g : TG} {tt : TT} {te : TE} (hc : X.calm = true) (hN : X.N.Nodup) (hs : X.stack = X.env :: X.outer) (hf : X.env.frame = some X.env.locals)
    (tk : Takes X fun cls d _ H => Eb cls d H) (hi : PI X tg iter wi) (ok : BlkOk X.N X.env.scope scope own)
    (hg : ∀ s H C cl fp xe, PG ((X.blk s H scope (compEnvC scope cl C X.env) fp).wish xe) tg g) (ht : ∀ s H C cl fp xe, PTs ((X.blk s H scope (compEnvC scope cl C X.env) fp).wish xe) ifs tt)
    (he : ∀ s H C cl fp xe, (∀ σ, PassesAt (L2.CX X.prog X.w) ((X.blk s H scope (compEnvC scope cl C X.env) fp).wish xe) σ Eb) → PE ((X.blk s H scope (compEnvC scope cl C X.env) fp).wish xe) elt te)
    (fs : ∀ x, foldedSetIterable iter X.env x = pure x := by intro _; rfl) : PE X (.ListComp elt [⟨tg, iter, ifs, 0⟩] scope pos) (tLc wi g tt te (own.map (·.2))) := by
  refine ⟨fun pins s σ H Q I h => ?_⟩
  rw [eval_ListComp]
  have fr : ∀ y ∈ scope.names, y.2 = .free → ∃ c, X.env.cells.lookup y.1 = some c := fun y hy e => I.ok.has _ (ok.free y hy e)
  refine comp_open rfl fs (closure_ok fr) ok.kind (fun y hy e => by rw [ok.uniq y hy, e]) (thn (hi.run pins s σ H _ I h) fun xv s1 hx => thn hx fun itv s2 ⟨it, fp, tn, J, H2, e, I2, T, st2, f2, q⟩ => ?_)
  subst e
  refine wpAny_newObj_type (newEnv_comp ?_) (by show 0 ≤ sizeLine; decide)
  obtain ⟨D, eD⟩ : ∃ D : Addr, D = s2.heap.objs.size := ⟨_, rfl⟩
  obtain ⟨W, ⟨m0, w0⟩, turn⟩ := q D (I2.hok.fresh (Nat.le_of_eq eD.symm))
  obtain ⟨s3, es3⟩ : ∃ s3 : Shared, s3 = { s2 with heap := s2.heap.push { cls := .type "list", data := .seq ([] : List Value).toArray } } := ⟨_, rfl⟩
  have h3 : s3.heap = s2.heap.push { cls := .type "list", data := .seq ([] : List Value).toArray } := by rw [es3]
  have I3 : L2.Inv X pins σ (upd H2 D (.lst [])) s3 := by
    rw [es3]
    refine I2.laid (t' := s2.toks) (fun b o e => Heap.get?_push_of_some _ e) (Nat.le_of_eq eD.symm) ⟨Nat.zero_le _, [], 0, .nil, ?_⟩
    rw [eD]
    exact Heap.get?_push_size _ rfl
  have f3 : ∀ b ∈ fp, FpOk X pins (upd H2 D (.lst [])) b ∧ b < s3.heap.objs.size := fun b hb => by
    obtain ⟨o, e, _⟩ := T.obj _ _ st2 b hb
    have lt := Heap.lt_size e
    refine ⟨⟨?_, (f2 b hb).2⟩, by rw [h3, Heap.size_push]; exact Nat.lt_succ_of_lt lt⟩
    rw [upd_ne (by rw [eD]; exact Nat.ne_of_lt lt)]
    exact (f2 b hb).1
  have I4 := block_start I3 ok hN f3
  have st3 : tn 0 s3.heap := T.keep _ _ _ st2 fun b _ o e => by rw [h3]; exact Heap.get?_push_of_some _ e
  rw [← es3, ← eD]
  show codeAny _ _ (.compStart (.ListComp elt [⟨tg, iter, ifs, 0⟩] scope pos) 0 (.ref it) (.ref D) (compEnvC scope (cellsFrom (s3.heap.objs.size + 1) scope.names (cloFrom X.env.cells scope.names [])) s3.heap.objs.size X.env)) (Past (model X.prog X.w) X.A X.xe (EP X pins σ Q) (.ref D) (compEnvC scope (cellsFrom (s3.heap.objs.size + 1) scope.names (cloFrom X.env.cells scope.names [])) s3.heap.objs.size X.env)) { s3 with heap := pushCells (s3.heap.push { cls := .type "dict", data := .dict #[] }) scope.names }
  have pg := hg s3 (upd H2 D (.lst [])) s3.heap.objs.size (cellsFrom (s3.heap.objs.size + 1) scope.names (cloFrom X.env.cells scope.names [])) fp
  have pt := ht s3 (upd H2 D (.lst [])) s3.heap.objs.size (cellsFrom (s3.heap.objs.size + 1) scope.names (cloFrom X.env.cells scope.names [])) fp
  have pe := he s3 (upd H2 D (.lst [])) s3.heap.objs.size (cellsFrom (s3.heap.objs.size + 1) scope.names (cloFrom X.env.cells scope.names [])) fp
  have cL : (compEnvC scope (cellsFrom (s3.heap.objs.size + 1) scope.names (cloFrom X.env.cells scope.names [])) s3.heap.objs.size X.env).locals = s3.heap.objs.size := rfl
  have cF : (compEnvC scope (cellsFrom (s3.heap.objs.size + 1) scope.names (cloFrom X.env.cells scope.names [])) s3.heap.objs.size X.env).frame = X.env.frame := rfl
  generalize compEnvC scope (cellsFrom (s3.heap.objs.size + 1) scope.names (cloFrom X.env.cells scope.names [])) s3.heap.objs.size X.env = ce at I4 pg pt pe cL cF ⊢
  have st4 : tn 0 (pushCells (s3.heap.push { cls := .type "dict", data := .dict #[] }) scope.names) := T.keep _ _ _ st3 fun b _ o e => pushCells_keeps _ _ _ _ (Heap.get?_push_of_some _ e)
  have n3 : ∀ b ∈ fp, (upd H2 D (.lst [])) b = none := fun b hb => (f3 b hb).1.1
  generalize upd H2 D (.lst []) = H3 at I3 I4 pg pt pe w0 f3 n3
  -- back in the def's context, at any time
  have back : ∀ {pn : List (Addr × Obj)} {σ' : L2.St} {H' : Hp} {s' : Shared}, L2.Inv (X.blk s3 H3 scope ce fp) pn σ' H' s' → L2.Inv X pins σ H' s' ∧ FpOk X pins H' ce.locals ∧ ∃ m, s'.heap.Ns ce.locals m := fun {pn σ' H' s'} J => by
    obtain ⟨m, hn, _⟩ := J.loc
    refine ⟨I3.call' (ch := fp) J.os J.base J.hok J.bare fun b hb => ?_, I3.fpOk (Nat.le_of_eq cL.symm) J.free, m, hn⟩
    have z := (f3 b hb).1
    exact ⟨z.2.2.2.1, z.2.1, z.2.2.2.2.1, z.2.2.2.2.2⟩
  have stat : ∀ {σ' : L2.St} {H' : Hp} {s' : Shared}, L2.Inv (X.blk s3 H3 scope ce fp) [] σ' H' s' → (∀ b ∈ fp, H' b = none) → ∀ b ∈ fp, FpOk (X.blk s3 H3 scope ce fp) [] H' b := fun {σ' H' s'} J n b hb =>
    ⟨n b hb, (J.ok.exf b hb).1, J.ok.exfs b hb, .inl hb, (J.ok.exf b hb).2, fun _ z => nomatch z⟩
  have loop : codeAny (model X.prog X.w) X.A (.compLoop (.ListComp elt [⟨tg, iter, ifs, 0⟩] scope pos) 0 (.ref it) (.ref D) ce) (Past (model X.prog X.w) X.A X.xe (EP X pins σ Q) (.ref D) ce) { s3 with heap := pushCells (s3.heap.push { cls := .type "dict", data := .dict #[] }) scope.names } := by
    refine compLoop_any (fun n s' => ∃ i H', L2.Inv (X.blk s3 H3 scope ce fp) [] (wipe σ (own.map (·.2))) H' s' ∧ tn i s'.heap ∧ (∀ b ∈ fp, H' b = none) ∧ W i n H') ?_ m0 ⟨0, H3, I4, st4, n3, w0⟩
    intro n s5 ⟨i, H5, I5, st5, n5, w5⟩
    have pass : ∀ σ', PassesAt (L2.CX X.prog X.w) ((X.blk s3 H3 scope ce fp).wish (notedBy (model X.prog X.w) X.A ce fun e s'' => Past (model X.prog X.w) X.A X.xe (EP X pins σ Q) (.ref D) ce (.error e) s'')) σ' Eb := fun σ' pn H' s' e s'' J c => by
      obtain ⟨K1, K2, m, K3⟩ := back J.unwish
      exact call_out hs hf tk K1 c K2 K3 cF
    have pe := pe _ pass
    have pg := pg (notedBy (model X.prog X.w) X.A ce fun e s'' => Past (model X.prog X.w) X.A X.xe (EP X pins σ Q) (.ref D) ce (.error e) s'')
    have pt := pt (notedBy (model X.prog X.w) X.A ce fun e s'' => Past (model X.prog X.w) X.A X.xe (EP X pins σ Q) (.ref D) ce (.error e) s'')
    rcases turn i n H5 w5 with ⟨stop, qq⟩ | ⟨go, Nx, hNx, step⟩
    · refine thnF (T.done (X.blk s3 H3 scope ce fp) rfl rfl rfl hc i [] s5 _ H5 (fun _ _ => False) I5 (stat I5 n5) st5 stop) fun r s6 ⟨hr, I6⟩ => ?_
      subst hr
      obtain ⟨K1, ⟨f0, f1, f2, f3, f4, f5⟩, m, K3⟩ := back I6
      exact ⟨m, K3, fun h' sb => ⟨.ref D, H5, K1.turned (t' := s6.toks) (fun b o hb e => (sb.2 b hb).trans e) f0 f1 f3 f4 f5, rfl, qq⟩⟩
    · refine thnF (T.item (X.blk s3 H3 scope ce fp) rfl rfl rfl hc i [] s5 _ H5 (fun _ _ => False) I5 (stat I5 n5) st5 go) fun r s6 ⟨u, hr, h6⟩ => ?_
      subst hr
      refine thnF h6 fun _ s7 ⟨x, H7, I7, r7, y7, st7, n7⟩ => ?_
      have I7' := I7.pinned (stat I7 n7) (T.obj _ _ st7)
      refine thn (pg.run _ s7 _ H7 x u _ (I7'.wish _) r7 (step x H7 y7)) fun _ s8 ⟨σ8, H8, I8, w8, q8⟩ => ?_
      refine thn (pt.run _ s8 σ8 H8 _ I8 q8) fun c s9 ⟨H9, I9, q9⟩ => ?_
      have done : ∀ {s' : Shared} {H' : Hp}, L2.Inv (X.blk s3 H3 scope ce fp) ([] ++ pinsAt fp s7.heap) σ8 H' s' → Nx H' → ∃ m, m < n ∧ ∃ i H', L2.Inv (X.blk s3 H3 scope ce fp) [] (wipe σ (own.map (·.2))) H' s' ∧ tn i s'.heap ∧ (∀ b ∈ fp, H' b = none) ∧ W i m H' := fun {s' H'} J nx => by
        obtain ⟨m', hm, w'⟩ := hNx H' nx
        have pin := fun b (hb : b ∈ fp) o (e : s7.heap.get? b = some o) => J.pin (b, o) (List.mem_append_right _ (List.mem_append_right _ (mem_pinsAt hb e)))
        refine ⟨m', hm, i + 1, H', (J.unpinned (pins := [])).weak (by rw [← w8, wipe_length]) (fun j v e => ?_), T.keep _ _ _ st7 fun b hb o e => (pin b hb o e).1, fun b hb => ?_, w'⟩
        · rw [← w8] at e
          exact (wipe_some e).1
        · obtain ⟨o, e, _⟩ := T.obj _ _ st7 b hb
          exact (pin b hb o e).2.1
      cases c with
      | false =>
        rw [if_neg Bool.false_ne_true] at q9 ⊢
        exact done I9.unwish q9
      | true =>
        rw [if_pos rfl] at q9 ⊢
        exact thn (pe.run _ s9 σ8 H9 _ I9 q9) fun z s10 ⟨yv, H10, I10, r10, acc, hD, hzz, nx⟩ => app_ok (X := X.blk s3 H3 scope ce fp) I10.unwish hD hzz r10 fun s11 I11 => done I11 nx
  exact codeAny_compStart_list loop (T.self X.A 0 _ _ _ st4 loop)
end
end Wr

set_option Elab.async false
set_option linter.all false
set_option maxRecDepth 100000
set_option maxHeartbeats 4000000
namespace Wr
open PySem
/-! ### an own class of refusals over any built-in one: tl is that one's own line -/
abbrev keTail : List Value := [.type "KeyError", .type "LookupError", .type "Exception", .type "BaseException", .type "object"]
abbrev ieTail : List Value := [.type "IndexError", .type "LookupError", .type "Exception", .type "BaseException", .type "object"]
/-- by whom it is made: newId, of the class Bn -/
structure TailOk (tl : List Value) (Bn newId : String) : Prop where
  facts : ∃ initId bmB, ExcBaseFacts Bn newId initId bmB
  b : tl.contains (.type Bn) = true
  noA : tl.contains (.type "AttributeError") = false
  noN : tl.contains (.type "NameError") = false
  obj : tl.contains (.type "object") = true
  pass : ∀ self, refuseLoop self "__setattr__" tl = pure ()
theorem ke_tail : TailOk keTail "LookupError" "LookupError.__new__" := ⟨⟨_, _, F.excBase_LookupError⟩, by decide +kernel, by decide +kernel, by decide +kernel, by decide +kernel, fun _ => by kernel_rfl⟩
theorem ie_tail : TailOk ieTail "IndexError" "IndexError.__new__" := ⟨⟨_, _, F.excBase_IndexError⟩, by decide +kernel, by decide +kernel, by decide +kernel, by decide +kernel, fun _ => by kernel_rfl⟩
theorem own_contains {C : Addr} {tl : List Value} {X : String} {c : Bool} (h : tl.contains (.type X) = c) : (Value.ref C :: tl).contains (.type X) = c := by
  rw [List.contains_cons, h]
  exact Bool.false_or c
section
variable {prog : Program} {w : World} {A : Around} {E : Value → Shared → Prop} {R : Result → Shared → Prop} {h : Heap} {g : Array GenState} {d : Drawn} {t : Nat} {os : OsState}
variable {nm q : Str} {C N : Addr} {bs tl : List Value} {hdct : Bool} {sn : List Str} {sub : List Value} {ab : Bool} {col : Option Bool} {dd : Option Addr} {k0 k1 k2 k3 k5 : Option Value} {Bn newId : String}
theorem mk_check {M : Model} {args : List Value} {Q : Unit → Shared → Prop} (T : TailOk tl Bn newId) (hC : h.get? C = some (excClassObj nm q C N bs tl hdct sn sub ab col dd k0 k1 k2 k3 k5 newId)) (hq : Q () ⟨h, g, d, t, os⟩) :
    wpAny M A (checkBuiltinCall newId ⟨.ref C :: args, []⟩) Q E ⟨h, g, d, t, os⟩ := by
  obtain ⟨initId, bmB, Fb⟩ := T.facts
  have has := own_contains (C := C) T.b
  have nostar := Fb.noStar
  simp only [Fb.newKind, Fb.newSplit, Fb.newRow, checkBuiltinCall]
  repeat (first
    | refine wpAny_loadPart_at hC ?_
    | (refine wpAny_isSubtype_exc hC ?_; rw [has])
    | refine wpAny_staticBase_exc hC ?_
    | refine wpAny_madeBy_exc hC ?_
    | simp only [bne_self_eq_false, Bool.false_eq_true, if_false]
    | wp_step)
  exact hq
theorem mk_new {args : List Value} (T : TailOk tl Bn newId) (hC : h.get? C = some (excClassObj nm q C N bs tl hdct sn sub ab col dd k0 k1 k2 k3 k5 newId)) (hl : args.length ≤ sizeLine)
    (hq : R (.ok (.ret (.ref (h.objs.size + 1)))) ⟨(h.push (W.kdv_tup args)).push (HandSPX.excO C h.objs.size), g, d, t, os⟩) : codeAny (model prog w) A (.builtin newId ⟨.ref C :: args, []⟩) R ⟨h, g, d, t, os⟩ := by
  obtain ⟨initId, bmB, Fb⟩ := T.facts
  have ends := Fb.ends
  have has := own_contains (C := C) T.b
  have nA := own_contains (C := C) T.noA
  have nN := own_contains (C := C) T.noN
  have hrest := hl
  refine codeAny_builtinAt Fb.entry ?_
  unfold Builtin.«BaseException.__new__»
  refine wpAt_bind ?_
  show wpAt _ _ _ (stack >>= _) _ _ _
  refine wpAt_bind (wpAt_stack fun _ _ => wpAt_of_wpAny ?_)
  wp_walk
  refine wpAt_of_wpAny ?_
  rw [Fb.owner]
  repeat (first
    | with_reducible refine wpAny_madeHere_exc Fb.canon hC ?_
    | with_reducible refine wpAny_loadPart_at hC ?_
    | (with_reducible refine wpAny_isSubtype_exc hC ?_; first | rw [has] | rw [nA] | rw [nN])
    | wp_step)
  show R _ _
  rw [Heap.size_push]
  exact hq
theorem mk_type {args : List Value} {fI : Addr} {Q : Fin → Shared → Prop} (T : TailOk tl Bn newId) (hC : h.get? C = some (excClassObj nm q C N bs tl hdct sn sub ab col dd k0 k1 k2 k3 k5 newId)) (hl : args.length ≤ sizeLine)
    (hi : W.Looks (model prog w) h (typeLookup (.ref C) "__init__") (some (.ref fI))) (hb : ∀ self, W.Looks (model prog w) h (bindSpecial (.ref fI) self) (.ref fI, [self]))
    (hq : codeAny (model prog w) A (.call (.ref fI) ⟨.ref (h.objs.size + 1) :: args, []⟩) (fun r s' => match r with
      | .ok (.ret v) => v = .none ∧ Q (.done (.ret (.ref (h.objs.size + 1)))) s'
      | .ok _ => False
      | .error e => E e s') ⟨(h.push (W.kdv_tup args)).push (HandSPX.excO C h.objs.size), g, d, t, os⟩) : wpAny (model prog w) A (Builtin.«type.__call__» ⟨.ref C :: args, []⟩) Q E ⟨h, g, d, t, os⟩ := by
  have quiet := let ⟨_, _, Fb⟩ := T.facts; Fb.quiet
  repeat (first
    | with_reducible refine wpAny_loadPart_at hC ?_
    | with_reducible refine wpAny_madeBy_exc hC ?_
    | wp_step)
  refine codeAny_call_builtin_code (Code.quiet_builtin _ quiet) (mk_check T hC (mk_new T hC hl ?_))
  show wpAny _ _ _ _ _ _
  have stay : ∀ c o, h.get? c = some o → ((h.push (W.kdv_tup args)).push (HandSPX.excO C h.objs.size)).get? c = some o := fun c o z => Heap.get?_push_of_some _ (Heap.get?_push_of_some _ z)
  have at1 : ((h.push (W.kdv_tup args)).push (HandSPX.excO C h.objs.size)).get? (h.objs.size + 1) = some (HandSPX.excO C h.objs.size) := by heap_get
  have C1 := stay _ _ hC
  have own : (Value.ref C :: tl).contains (.ref C) = true := by simp
  have i1 := hi.keeps stay
  have b1 := (hb (.ref (h.objs.size + 1))).keeps stay
  unfold isInstance
  repeat (first
    | with_reducible refine wpAny_loadPart_at at1 ?_
    | (with_reducible refine wpAny_isSubtype_exc C1 ?_; rw [own])
    | wp_step)
  show wpAny _ _ (typeLookup (.ref C) _) _ _ _
  refine i1.at (wpAny_holding (wpAny_bind (b1.at (wpAny_bind (wpAny_call (codeAny_mono hq fun r s' z => ?_))))))
  rcases r with e | (v | _ | _ | _) <;> first | exact z | exact z.elim | skip
  obtain ⟨rfl, y⟩ := z
  first
    | exact wpAny_pure (wpAny_pure y)
    | (wp_walk; exact y)
/-- C(..), C's __init__ a def -/
theorem mk_call {args : List Value} {fI : Addr} (T : TailOk tl Bn newId) (hC : h.get? C = some (excClassObj nm q C N bs tl hdct sn sub ab col dd k0 k1 k2 k3 k5 newId)) (hl : args.length ≤ sizeLine)
    (hi : W.Looks (model prog w) h (typeLookup (.ref C) "__init__") (some (.ref fI))) (hb : ∀ self, W.Looks (model prog w) h (bindSpecial (.ref fI) self) (.ref fI, [self]))
    (hq : codeAny (model prog w) (A.under (.builtin "type.__call__" ⟨.ref C :: args, []⟩)) (.call (.ref fI) ⟨.ref (h.objs.size + 1) :: args, []⟩) (W.InitBack (h.objs.size + 1) R) ⟨(h.push (W.kdv_tup args)).push (HandSPX.excO C h.objs.size), g, d, t, os⟩) :
    codeAny (model prog w) A (.call (.ref C) ⟨args, []⟩) R ⟨h, g, d, t, os⟩ := by
  have look := tc_lookup
  have bind := tc_bind (.ref C)
  have ty : (⟨h, g, d, t, os⟩ : Shared).TypeIs (.ref C) "type" := ⟨_, hC, rfl⟩
  refine codeAny_of_tree ?_
  show wpAny _ _ (callAny (.ref C) _) _ _ _
  repeat (any_goals (first
    | assumption
    | with_reducible refine wpAny_loadPart_at hC ?_
    | wp_step))
  refine ⟨rfl, codeAny_call_builtin_at (Code.quiet_builtin _ (by decide +kernel)) entry_typeCall (wpAny_check_type_call_sub hC (mk_type T hC hl hi hb (codeAny_mono hq fun r s' z => ?_)))⟩
  rcases r with e | (v | _ | _ | _) <;> exact z
end
/-- B.__init__(e, ..) of such an exception: its args are laid anew, nothing else -/
def InitOk (tl : List Value) (newId initId : String) : Prop :=
  ∀ (prog : Program) (w : World) (A : Around) (R : Result → Shared → Prop) (h : Heap) (g : Array GenState) (d : Drawn) (t : Nat) (os : OsState) (nm q : Str) (C N : Addr) (bs : List Value) (hdct : Bool) (sn : List Str) (sub : List Value) (ab : Bool) (col : Option Bool) (dd : Option Addr) (k0 k1 k2 k3 k5 : Option Value) (e t0 : Addr) (args : List Value),
    h.get? C = some (excClassObj nm q C N bs tl hdct sn sub ab col dd k0 k1 k2 k3 k5 newId) → h.get? e = some (HandSPX.excO C t0) → args.length ≤ sizeLine →
    (∀ h' t1, (∀ b o, b ≠ e → h.get? b = some o → h'.get? b = some o) → h'.get? e = some (HandSPX.excO C t1) → R (.ok (.ret .none)) ⟨h', g, d, t, os⟩) → codeAny (model prog w) A (.call (.builtin initId) ⟨.ref e :: args, []⟩) R ⟨h, g, d, t, os⟩
theorem ie_init : InitOk ieTail "IndexError.__new__" "IndexError.__init__" := fun _ _ _ _ _ _ _ _ _ _ _ _ _ _ _ _ _ _ _ _ _ _ _ _ _ _ _ _ hC he hl hq => HandSPX.init_base F.excBase_IndexError (fun _ => rfl) hC he hl hq
theorem ke_entry : entryFor table "KeyError.__init__" = some Builtin.«BaseException.__init__» := by
  refine entryFor_alias (id' := "BaseException.__init__") ?_ ?_ ?_ ?_
  · rw [fastTable_eq_tree]
    kernel_rfl
  · first | rfl | decide +kernel
  · decide +kernel
  · rw [fastTable_eq_tree]
    kernel_rfl
theorem ke_check {M : Model} {A : Around} {E : Value → Shared → Prop} {h : Heap} {g : Array GenState} {d : Drawn} {t : Nat} {os : OsState} {nm q : Str} {C N : Addr} {bs : List Value} {hdct : Bool} {sn : List Str} {sub : List Value} {ab : Bool} {col : Option Bool} {dd : Option Addr} {k0 k1 k2 k3 k5 : Option Value} {newId : String} {e : Addr} {oe : Obj} {args : List Value} {Q : Unit → Shared → Prop}
    (hC : h.get? C = some (excClassObj nm q C N bs keTail hdct sn sub ab col dd k0 k1 k2 k3 k5 newId)) (he : h.get? e = some oe) (hcls : oe.cls = .ref C) (hq : Q () ⟨h, g, d, t, os⟩) : wpAny M A (checkBuiltinCall "KeyError.__init__" ⟨.ref e :: args, []⟩) Q E ⟨h, g, d, t, os⟩ := by
  have has : (Value.ref C :: keTail).contains (.type "KeyError") = true := own_contains (by decide +kernel)
  have e1 : builtinKind "KeyError.__init__" = builtinKind "IndexError.__init__" := by kernel_rfl
  have e2 : splitId "KeyError.__init__" = some ("KeyError", "__init__") := by kernel_rfl
  have e3 : Manifest.signature? "KeyError.__init__" = some ⟨.positional, "*", "KeyError", .self, [⟨"args", .varPos, false⟩]⟩ := by kernel_rfl
  have e4 := F.excBase_IndexError.initKind
  simp only [e1, e2, e3, e4, checkBuiltinCall]
  repeat (first
    | (with_reducible refine wpAny_loadPart_at he ?_; rw [hcls])
    | with_reducible refine wpAny_loadPart_at hC ?_
    | (with_reducible refine wpAny_isSubtype_exc hC ?_; rw [has])
    | wp_step)
  refine wpAny_onRaise ?_
  have ck : ∀ (a b : String) (n : Nat), Bind.check ⟨.positional, "*", "KeyError", .self, [⟨"args", .varPos, false⟩]⟩ a b n (List.map (fun x => x.fst) ({ pos := Value.ref e :: args } : Args).kw) = pure () := fun _ _ _ => check_star_args _ _ _ _ _ _
  rw [ck]
  exact wpAny_pure hq
theorem ke_init : InitOk keTail "LookupError.__new__" "KeyError.__init__" := fun prog w A R h g d t os nm q C N bs hdct sn sub ab col dd k0 k1 k2 k3 k5 e t0 args hC he hl hq => by
  have hrest := hl
  refine codeAny_call_builtin (by kernel_rfl) ke_entry (ke_check hC he rfl ?_)
  wp_walk
  refine hq _ h.objs.size (fun c o hc z => ?_) ?_
  · exact (Heap.get?_update_other _ _ (Ne.symm hc)).trans (Heap.get?_push_of_some _ z)
  · rw [Heap.get?_update_self _ (Heap.get?_push_of_some _ he) rfl]
    rfl
end Wr

set_option Elab.async false
set_option linter.all false
set_option maxRecDepth 100000
set_option maxHeartbeats 4000000
namespace Wr
open PySem PySem.Spec PyProof.Rows L2 Evl
/-! ### what the written part says of such a class -/
structure OexT (K : PySem.W.Frag) (C : Addr) (tl : List Value) (Bn newId : String) : Prop where
  tail : TailOk tl Bn newId
  cls : ∃ nm q N bs sn sub ab col dd k0 k1 k2 k3 k5, K.lookup C = some (excClassObj nm q C N bs tl true sn sub ab col dd k0 k1 k2 k3 k5 newId)
  sa : PySem.W.findIn K (.ref C) "__setattr__" = some (some (.builtin "object.__setattr__"))
  exC : PySem.W.subIn K (.ref C) (.type "BaseException") = some true
  tyC : PySem.W.typeIn K (.ref C) = some (.type "type")
  kC : PySem.W.keepIn K (.ref C) = true
section
open Builtin Builtin.ObjectAttr
variable {prog : Program} {w : World} {A : Around} {E : Value → Shared → Prop} {R : Result → Shared → Prop} {hp : Heap} {g : Array GenState} {d : Drawn} {t : Nat} {os : OsState}
/-- self.name = v, the first field -/
theorem set_first {K : W.Frag} {name : Str} {tk : Tok} {v : Value} {x C : Addr} {fv : Array Value} {cd : ClassData} {tl : List Value} {Bn newId : String} (T : TailOk tl Bn newId) (KX : K.In hp) (hx : hp.get? x = some { cls := .ref C, data := .fields fv }) (hcd : W.clsIn K C = some cd) (hm : cd.mro = .ref C :: tl) (hh : cd.hasDict = true)
    (hno : W.findIn K (.ref C) name = some none)
    (hq : ∀ h' tk' dx, (∀ b o, b ≠ x → hp.get? b = some o → h'.get? b = some o) → hp.objs.size ≤ dx → dx ≠ x → h'.get? x = some { cls := .ref C, dict := some dx, data := .fields fv } → h'.Ns1 dx (fun y => if y = name then some v else none) → R (.ok (.ret .none)) ⟨h', g, d, tk', os⟩) :
    codeAny (model prog w) A (.call (.builtin "object.__setattr__") ⟨[.ref x, .str name tk, v], []⟩) R ⟨hp, g, d, t, os⟩ := by
  have inst : W.InstAt hp x { cls := .ref C, data := .fields fv } C none := ⟨hx, rfl, rfl, trivial⟩
  have SO := F.store_object
  have hob : cd.mro.contains (.type "object") = true := by rw [hm]; exact own_contains T.obj
  have hem : cd.mro.isEmpty = false := by rw [hm]; rfl
  have far : x ≠ hp.objs.size := Nat.ne_of_lt (Heap.lt_size hx)
  have sub : W.Looks (model prog w) hp (isInstance (.ref x) (.type "object")) true := by
    refine inst.type.andThen (W.looks_mroIn KX ?_)
    unfold W.mroIn
    rw [hcd, Option.bind_some, if_neg (by rw [hem]; decide), hob]
  refine codeAny_call_builtin SO.slot.plain SO.entry (@W.check_slot (model prog w) _ _ ⟨hp, g, d, t, os⟩ "object.__setattr__" "object" "__setattr__" (.ref x) [.str name tk, v] [] _ SO.kind SO.split sub (SO.args _ _ _) ?_)
  have lcls : W.Looks (model prog w) hp (classData C) cd := W.looks_clsIn KX hcd
  have lmro : W.Looks (model prog w) hp (mroOf (.ref C)) cd.mro := lcls.andThen .now
  have ltk : W.Looks (model prog w) hp (storeTaker? none) none := .now
  rw [W.osa_eq, refuse_eq]
  refine wpAny_bind (wpAny_bind (inst.type.at (wpAny_bind (lmro.at ?_))))
  rw [hm, refuseLoop_ref, T.pass]
  refine wpAny_pure (wpAny_bind (inst.type.at (wpAny_bind ((W.looks_findIn KX hno).at (wpAny_bind (ltk.at ?_))))))
  show wpAny _ _ (storeInOwnDict (.ref x) (.ref C) (.str name tk) name v false) _ _ _
  obtain ⟨nm, bs, mro, ns, qn, hd, sn, sb, ab, col, del⟩ := cd
  dsimp only at hh
  subst hh
  unfold storeInOwnDict ownDictForStores
  repeat (first
    | with_reducible refine HandSPX.store_in_new ?_ ?_
    | with_reducible refine wpAny_loadPart_at hx ?_
    | with_reducible refine lcls.at ?_
    | wp_step)
  · exact ⟨_, #[], _, (Heap.get?_update_ne _ _ _ _ far.symm).trans (Heap.get?_push_at rfl rfl), rfl, fun e he => absurd he (by simp), fun _ => rfl⟩
  · intro h' tk' hn' hs
    have hx1 : (hp.push { cls := .type "dict", data := .dict #[] }).get? x = some { cls := .ref C, data := .fields fv } := Heap.get?_push_of_some _ hx
    exact hq h' tk' hp.objs.size (fun c o hc z => (hs.2 c (Nat.ne_of_lt (Heap.lt_size z))).trans ((Heap.get?_update_ne _ _ _ _ hc).trans (Heap.get?_push_of_some _ z))) (Nat.le_refl _) far.symm ((hs.2 x far).trans (Heap.get?_update_self _ hx1 rfl)) hn'
end
section
variable {X : Cx} {pins : List (Addr × Obj)} {σ : L2.St} {H : Hp} {s : Shared} {a C : Addr} {f : Str} {y : V} {u : Value} {A : Around} {E : Value → Shared → Prop} {tl : List Value} {Bn newId initId : String}
theorem ost_first {Q : Unit → Shared → Prop} (T : OexT X.K C tl Bn newId) (I : Inv X pins σ H s) (e : H a = some (exo a C none)) (hno : PySem.W.findIn X.K (.ref C) f = some none) (ry : RelV y u)
    (h : ∀ dx s', H dx = none → dx ≠ a → Inv X pins σ (upd (upd H dx (exd dx [(f, y)])) a (exo a C (some dx))) s' → Q () s') : wpAny (model X.prog X.w) A (setAttr (.ref a) f u) Q E s := by
  obtain ⟨nm, q, N, bs, sn, sub, ab, col, dd, k0, k1, k2, k3, k5, hC⟩ := T.cls
  have hcl : PySem.W.clsIn X.K C = some { name := nm, bases := bs, mro := .ref C :: tl, ns := N, qualname := q, hasDict := true, slotNames := sn, subclasses := sub, abstract := ab, collection := col, hasDel := false } := by
    unfold PySem.W.clsIn
    rw [hC] <;> rfl
  obtain ⟨t1, ho⟩ := exo_at I.hok e
  obtain ⟨hp, g, d, t, os⟩ := s
  refine PySem.W.set_plain I.kIn (ox := { cls := .ref C, dict := none, data := .fields #[.ref t1, .none, .none, .none, .bool false, .none] }) (od := none) ⟨ho, rfl, rfl, trivial⟩ T.sa (set_first T.tail I.kIn ho hcl rfl rfl hno fun h' tk' dx k dn dne hx hn => ?_)
  have free : H dx = none := I.hok.fresh dn
  have offd : ∀ {c : Addr} {o : Obj}, hp.get? c = some o → c ≠ dx := fun {c o} z => Nat.ne_of_lt (Nat.lt_of_lt_of_le (Heap.lt_size z) dn)
  have offa : ∀ {c : Addr}, H c = none → c ≠ a := fun {c} n z => by
    rw [z, e] at n
    cases n
  have U : Un X.fs [] H (upd (upd H dx (exd dx [(f, y)])) a (exo a C (some dx))) hp h' := {
    keep := fun c o z n _ _ => k c o (offa n) z
    slot := fun c o z n _ _ => ⟨o.slots, k c o (offa n) z⟩
    free := fun c o z n _ => by rw [upd_ne (offa n), upd_ne (offd z)]; exact n
    there := fun c o z _ => by
      by_cases hc : c = a
      · exact ⟨_, by rw [hc]; exact hx⟩
      · exact ⟨o, k c o hc z⟩
    tups := fun c xs z => by rw [upd_ne (at_ne e z exo_tup), upd_ne (ne_of_none z free)]; exact z
    frzs := fun c o v z => by rw [upd_ne (at_ne e z exo_frz), upd_ne (ne_of_none z free)]; exact z
    tbls := fun c ps z => ⟨#[], by rw [upd_ne (at_ne e z exo_tbl), upd_ne (ne_of_none z free), z]; simp⟩ }
  refine h dx _ free dne (I.un (t' := tk') U fun c o z => ?_)
  by_cases hc : c = a
  · subst hc
    rw [upd_same] at z
    cases z
    exact exo_ok hx
  · rw [upd_ne hc] at z
    by_cases hd : c = dx
    · subst hd
      rw [upd_same] at z
      cases z
      exact exd_ok hn (relO_put (fs := []) ry fun _ => True.intro)
    · rw [upd_ne hd] at z
      refine (I.hok c o z).stay (fun c' v hc' y => k c' v ?_ y) (fun c' hc' => ?_) (fun c' xs hc' => ?_)
      · rcases hc' with hc' | hc'
        · rw [hc']
          exact hc
        · exact at_ne e hc' exo_own
      · rw [upd_ne (at_ne e hc' exo_own), upd_ne (ne_of_none hc' free)]
        exact hc'
      · rw [upd_ne (at_ne e hc' exo_tup), upd_ne (ne_of_none hc' free)]
        exact hc'
theorem init_ok {us : List Value} {Q : Value → Shared → Prop} (T : OexT X.K C tl Bn newId) (hI : InitOk tl newId initId) (I : Inv X pins σ H s) (e : H a = some (exo a C none)) (hl : us.length ≤ sizeLine) (h : ∀ s', Inv X pins σ H s' → Q .none s') : wpAny (model X.prog X.w) A (call (.builtin initId) (.ref a :: us)) Q E s := by
  obtain ⟨nm, q, N, bs, sn, sub, ab, col, dd, k0, k1, k2, k3, k5, hC⟩ := T.cls
  obtain ⟨t1, ho⟩ := exo_at I.hok e
  obtain ⟨hp, g, d, t, os⟩ := s
  refine wpAny_call (hI _ _ _ _ _ _ _ _ _ _ _ _ _ _ _ _ _ _ _ _ _ _ _ _ _ _ _ _ (I.kIn _ _ hC) ho hl fun h' t2 k hx => ?_)
  have J := I.write (t' := t) (x := a) (e := a) (o := exo a C none) (by rw [e]; exact True.intro) (.inl rfl) k ⟨_, hx⟩ (exo_ok hx)
  have same : upd H a (exo a C none) = H := by
    funext c
    by_cases hc : c = a
    · rw [hc, upd_same, e]
    · exact upd_ne hc
  rw [same] at J
  exact h _ J
end
/-! ### rules -/
/-- B.__init__(self, ..) -/
def tBI (K : PySem.W.Frag) (tl : List Value) (Bn newId : String) (ta : TA) : TE := fun σ H Q => ta σ H fun vs H1 => ∃ (a C : Addr) (ws : List V), vs = .ref a :: ws ∧ ws.length ≤ 1000 ∧ OexT K C tl Bn newId ∧ H1 a = some (exo a C none) ∧ Q .non H1
/-- self.f = e, the first field -/
def tFst (K : PySem.W.Frag) (tl : List Value) (Bn newId : String) (f : Str) (to te : TE) : TS := fun D σ H => te σ H fun y H1 => to σ H1 fun x H2 => ∃ a C : Addr, x = .ref a ∧ OexT K C tl Bn newId ∧ PySem.W.findIn K (.ref C) f = some none ∧
  H2 a = some (exo a C none) ∧ ∀ dx, H2 dx = none → dx ≠ a → D.nx σ (upd (upd H2 dx (exd dx [(f, y)])) a (exo a C (some dx)))
section
variable {X : Cx} {o e : Expr} {es : List Expr} {to te : TE} {ta : TA} {f B : Str} {p p' p1 p2 pos : Pos} {tl : List Value} {Bn newId initId Bs : String}
theorem pe_binit {pl : Sem Bool} (hI : InitOk tl newId initId) (hg : Gl X B) (hm : X.mg B = none) (hv : bootBuiltins B = some (.type Bs)) (ht : typeOf (.type Bs) = pure (.type "type")) (hst : Manifest.isStub Bs = false) (hhd : PySem.W.handedIn (.builtin initId) = true) (hnn : B ≠ "__name__") (hdb : (B == ("__debug__" : Str)) = false)
    (vV : PySem.W.findCls X.K (.type Bs) (.type "type") "__init__" = some (.val (.builtin initId))) (ha : PA X (e :: es) ta)
    (hc : eval (.Call (.Attribute (.Name B p1) "__init__" p2) (e :: es) [] pos) X.env = (do
      let ov ← eval (.Name B p1) X.env
      standAt p2.atName
      let (f, first) ← holding [ov] (getMethod ov "__init__" pl)
      callWith pos f first (backTo pos (starEach (e :: es) X.env)) (backToKw pos (keywordEach [] X.env))) := by rfl)
    (he : starEach (e :: es) X.env = (false, eval e X.env) :: starEach es X.env := by rfl) (hpl : (backTo pos (starEach es X.env)).any (·.1) = false := by rfl) :
    PE X (.Call (.Attribute (.Name B p1) "__init__" p2) (e :: es) [] pos) (tBI X.K tl Bn newId ta) := by
  refine ⟨fun pins s σ H Q I h => PySem.W.methodCall_KW (ld_blt I hg hm hv ?_ hnn hdb) hc⟩
  obtain ⟨m, fr⟩ := I.fr
  refine PySem.W.method_type fr I.ok.mod.kin ht hst vV hhd ?_
  show wpAny _ _ (callWith pos (Value.builtin initId) [] (backTo pos (starEach (e :: es) X.env)) []) _ _ _
  refine PyProof.Rows.callWith_method1 (thn (ha.run pos pins _ σ H _ (I.tok _) h) fun us s1 ⟨vs, H1, I1, r1, a, C, ws, ev, hl, T, ea, q⟩ => ?_) he hpl
  subst ev
  cases r1 with
  | @cons _ u0 _ ur ra rr =>
    obtain rfl : u0 = Value.ref a := ra
    exact init_ok T hI I1 ea (by rw [← Paired.length rr, sizeLine_eq]; omega) fun s' J => ⟨.non, H1, J, rfl, q⟩
theorem ps_first (ho : PE X o to) (he : PE X e te) (hs : swapsWith e (some (.Attribute o f p')) pos.line X.env = pure false := by rfl) : PS X (.Assign [.Attribute o f p'] e pos) (tFst X.K tl Bn newId f to te) := by
  refine ⟨fun pins s σ H D I h => plainObj_wpAny_Assign_Attribute (thn (he.run pins s σ H _ I h) fun v s1 ⟨y, H1, I1, r1, q1⟩ => thn (ho.run pins s1 σ H1 _ I1 q1) fun u s2 ⟨x, H2, I2, r2, a, C, ex, T, hno, ea, q⟩ => ?_) hs⟩
  subst ex
  obtain rfl : u = Value.ref a := r2
  exact ost_first T I2 ea hno r1 fun dx s' n ne J => ⟨σ, _, J, q dx n ne⟩
/-- C(e, ..) as an exception that is raised -/
theorem pmk_t {CX : CXT} {x : Str} {C fI : Addr} {k : Nat} {fd : FuncData} {ps : List Str} {sp : Sp} (T : OexT X.K C tl Bn newId) (iC : PySem.W.findIn X.K (.ref C) "__init__" = some (some (.ref fI))) (tI : PySem.W.typeIn X.K (.ref fI) = some (.type "function"))
    (G : FnOk X.prog X.w X.K X.mg X.base CX k fI fd ps sp) (hr : Room (k + 1) X.A) (hb : Binds X.K fd ps []) (hx : Passes CX X (fun _ _ _ => False)) (hg : Gl X x) (hm : X.mg x = some (.ref C)) (ha : PA X (e :: es) ta)
    (hdb : (x == ("__debug__" : Str)) = false := by decide) (he : starEach (e :: es) X.env = (false, eval e X.env) :: starEach es X.env := by rfl) (hpl : (backTo pos (starEach es X.env)).any (·.1) = false := by rfl) :
    PMk X (.Call (.Name x p) (e :: es) [] pos) (tMkO C sp [] ta) := by
  intro pins s σ H Q I h
  obtain ⟨nm, q, N, bs, sn, sub, ab, col, dd, k0, k1, k2, k3, k5, hC⟩ := T.cls
  refine wpAny_Call_Name_kw (ld_glob I hg hm (PySem.W.callWith_K (h₀ := X.base) I.ok.mod.kin T.kC (thn (ha.run pos pins s σ H _ I h) fun us s1 ⟨vs, H1, I1, r1, hz, q1⟩ => ⟨I1.kIn, ?_⟩) he hpl) hdb)
  show wpAny _ _ (call (.ref C) us) _ _ _
  obtain ⟨hp, g, dr, tk, os⟩ := s1
  have up : hp.objs.size ≤ hp.objs.size + 1 := Nat.le_succ _
  have free : H1 (hp.objs.size + 1) = none := I1.hok.fresh up
  have hq := q1 _ free
  rw [List.append_nil] at hq
  have stay : ∀ c u, hp.get? c = some u → ((hp.push (PySem.W.kdv_tup us)).push (PySem.HandSPX.excO C hp.objs.size)).get? c = some u := fun c u z => Heap.get?_push_of_some _ (Heap.get?_push_of_some _ z)
  have at1 : ((hp.push (PySem.W.kdv_tup us)).push (PySem.HandSPX.excO C hp.objs.size)).get? (hp.objs.size + 1) = some (PySem.HandSPX.excO C hp.objs.size) := by heap_get
  have I2 : Inv X pins σ (upd H1 (hp.objs.size + 1) (exo (hp.objs.size + 1) C none)) ⟨(hp.push (PySem.W.kdv_tup us)).push (PySem.HandSPX.excO C hp.objs.size), g, dr, tk, os⟩ := I1.laid (t' := tk) stay up (exo_ok at1)
  have r2 : Vals (V.ref (hp.objs.size + 1) :: vs) (Value.ref (hp.objs.size + 1) :: us) := .cons rfl r1
  have hl : (Value.ref (hp.objs.size + 1) :: us ++ []).length = ps.length := by
    rw [List.append_nil, ← r2.length]
    exact G.len _ _ _ _ hq
  have hus : us.length ≤ sizeLine := by
    rw [← Paired.length r1, sizeLine_eq]
    omega
  have hb2 := hb ⟨(hp.push (PySem.W.kdv_tup us)).push (PySem.HandSPX.excO C hp.objs.size), g, dr, tk, os⟩ (Value.ref (hp.objs.size + 1) :: us) I2.kIn hl
  rw [List.append_nil] at hb2
  refine wpAny_call (mk_call T.tail (I1.kIn _ _ hC) hus (PySem.W.looks_findIn I1.kIn iC) (fun self => PySem.W.bind_fn I1.kIn self tI) (codeAny_mono (G.run _ X.stack _ _ ⟨Value.ref (hp.objs.size + 1) :: us, []⟩ _ _ _ (fun _ _ _ => False) (hr.make C us []) (I2.env0.make C us []) hb2 r2 hq) fun r s' hq' => ?_))
  rcases r with er | fl
  · exact hx pins σ _ _ er s' I2 hq'
  rcases fl with _ | _ | _ | u
  all_goals try exact False.elim hq'
  obtain ⟨v, H2, os2, bare2, un2, hok2, rv, ev, d, fs, ea, ed, hd1, q2⟩ := hq'
  subst ev
  obtain ⟨h2, g2, d2, t2, os'⟩ := s'
  exact ⟨rv, mk_end (raises_own T.exC T.tyC) I1 up stay un2 hok2 os2 bare2 ea ed hd1 q2⟩
end
end Wr

set_option Elab.async false
set_option linter.all false
set_option maxRecDepth 100000
set_option maxHeartbeats 4000000
namespace Wr
open PySem PySem.Spec PyProof.Rows L2 Evl
/-! ### repr, where nothing is being shown -/
def rRepr (K : PySem.W.Frag) : List V → Hp → VK → Prop := fun xs H Q => ∃ x d, xs = [x] ∧ Dp K H x d ∧ okD 30 d = true ∧ d.shown.length ≤ 16700000 ∧ Q (.str d.shown) H
theorem call_reprD {X : Cx} (hg : X.A.guards = some []) (hu : X.A.units + 64 < cLine) : CallR X (.builtin "repr") (rRepr X.K) := by
  intro pins s σ H xs us Q I r ⟨x, d, e, hd, ho, hz, q⟩
  subst e
  obtain ⟨u, rfl, rx⟩ := vals1 r
  obtain ⟨f1, f2, f3⟩ := ok_facts 30 d ho
  have hsl : sizeLine = 16777216 := sizeLine_eq
  have hsz : d.shown.length ≤ sizeLine := by
    omega
  obtain ⟨as, rd⟩ := Dp.reads I d x u hd rx
  cases hd with
  | non =>
    cases rx
    simp only [PyData.shown] at q
    exact PySem.P.repr_of_none ⟨.str _, H, I.tok _, ⟨_, rfl⟩, q⟩
  | bl c =>
    cases rx
    simp only [PyData.shown] at q
    refine PySem.P.repr_of_bool ⟨.str _, H, I.tok _, ⟨_, rfl⟩, ?_⟩
    cases c <;> exact q
  | int i =>
    obtain ⟨t, rfl⟩ := rx
    simp only [PyData.shown] at q
    exact PySem.P.repr_of_int (by simpa [PyData.showable] using f3) ⟨.str _, H, I.tok _, ⟨_, rfl⟩, q⟩
  | str y =>
    obtain ⟨t, rfl⟩ := rx
    simp only [PyData.shown] at q hsz
    exact PySem.P.repr_of_str ⟨.str _, H, I.tok _, ⟨_, rfl⟩, q⟩ hsz
  | lst h1 h2 =>
    cases rx
    exact repr_of_reads' rd f3 (PyData.noDict_hsm (PyData.hasDict_of_canLay _ f1)) hg (by omega) (fun _ _ e => e) (fun h' t tk kp => ⟨.str _, H, I.kept (t' := tk) kp, ⟨_, rfl⟩, q⟩) hsz
  | tup h1 h2 =>
    cases rx
    exact repr_of_reads' rd f3 (PyData.noDict_hsm (PyData.hasDict_of_canLay _ f1)) hg (by omega) (fun _ _ e => e) (fun h' t tk kp => ⟨.str _, H, I.kept (t' := tk) kp, ⟨_, rfl⟩, q⟩) hsz
/-! ### defs that are called where nothing is being shown -/
structure FnG (P : Program) (w : World) (K : PySem.W.Frag) (mg : Str → Option Value) (base : Heap) (k : Nat) (f : Addr) (fd : FuncData) (ps : List Str) (sp : Sp) : Prop where
  len : ∀ vs H Q E, sp vs H Q E → vs.length = ps.length
  go : ∀ (A : Around) (outer : List Env) (s : Shared) (H : Hp) (args : Args) (us : List Value) (vs : List V) (Q : VK) (E : XK), A.guards = some [] → Room k A → Env0 P w K mg base A outer s H → BindsTo s fd args (ps.zip us) → Vals vs us → sp vs H Q E →
    codeAny (model P w) A (.call (.ref f) args) (CR CX0 outer P w H s Q E) s
theorem deeper_guards {A : Around} {env : Env} (h : A.guards = some []) : (A.deeper env).guards = some [] := by
  first
    | exact h
    | simpa [Around.deeper] using h
section
variable {X : Cx} {k : Nat} {f : Addr} {fd : FuncData} {ps : List Str} {sp : Sp} {x : Str} {st : Stmt} {p pos : Pos} {e : Expr} {es : List Expr} {t : TA}
theorem pe_cdG (D : Def X.K X.mg x st ps f fd) (G : FnG X.prog X.w X.K X.mg X.base k f fd ps sp) (hg : X.A.guards = some []) (hr : Room k X.A) (ha : PA X (e :: es) t) (hgl : Gl X x := by rfl) (hdb : (x == ("__debug__" : Str)) = false := by decide)
    (he : starEach (e :: es) X.env = (false, eval e X.env) :: starEach es X.env := by rfl) (hpl : (backTo pos (starEach es X.env)).any (·.1) = false := by rfl) : PE X (.Call (.Name x p) (e :: es) [] pos) (tCall sp [] E0 t) :=
  ⟨fun pins s σ H Q I h => wpAny_Call_Name_kw (ld_glob I hgl D.m (PySem.W.callWith_K (h₀ := X.base) I.ok.mod.kin D.F.kp (thn (ha.run pos pins s σ H _ I h) fun us s1 ⟨vs, H1, I1, r, q⟩ => ⟨I1.kIn, by
    have q : sp (vs ++ []) H1 Q E0 := q
    rw [List.append_nil] at q
    have hl : (us ++ []).length = ps.length := by rw [List.append_nil, ← r.length]; exact G.len _ _ _ _ q
    have hb := D.b s1 us I1.kIn hl
    rw [List.append_nil] at hb
    refine wpAny_call (codeAny_mono (G.go X.A X.stack s1 H1 ⟨us, []⟩ us vs Q E0 hg hr I1.env0 hb r q) fun res s' hq => ?_)
    rcases res with e' | fl
    · exact hq.elim
    · rcases fl with _ | _ | _ | u
      all_goals first | exact I1.after hq | exact False.elim hq⟩) he hpl) hdb)⟩
end
section
variable {P : Program} {w : World} {K : PySem.W.Frag} {mg : Str → Option Value} {base : Heap}
/-- a def by its body, called where nothing is being shown -/
theorem Def.okG {x : Str} {st : Stmt} {f : Addr} {fd : FuncData} {N ps : List Str} {k : Nat} {sp : Sp} (D : Def K mg x st ps f fd) (S : FnScope N ps (defScope st)) (len : ∀ vs H Q E, sp vs H Q E → vs.length = ps.length)
    (hbody : ∀ (cdv : Value) (A : Around) (outer : List Env) (s : Shared) (H : Hp) (vs : List V) (Q : VK) (E : XK), (A.deeper (envOfC x (defScope st) s.heap.objs.size f cdv)).guards = some [] → Room k (A.deeper (envOfC x (defScope st) s.heap.objs.size f cdv)) → sp vs H Q E →
      ∃ t, PSs (cxOf CX0 P w K mg base N x (defScope st) f cdv A outer s H E).nox (defBody st) t ∧ t { nx := fun _ H' => Q .non H', rt := Q } (start N vs) H) : FnG P w K mg base (k + 1) f fd ps sp := by
  obtain ⟨oc, od, kV, doc, pm, an, cdv, ct, osl, rfl, lk, hcd⟩ := D.F.ex
  refine ⟨len, fun A outer s H args us vs Q E hgu hr e0 hb rv hsp => ?_⟩
  have keep := fun b o e => (e0.bs b o e).1
  have inS := e0.mod.kin.keeps keep
  refine codeAny_call_function hr.depth (inS _ _ lk) rfl S.co S.gen rfl (PySem.W.codeRec_of inS hcd) (hb _ _ _ _ (wpAny_newFunctionEnv_cells S.kind (fun y hy => ?_) fun env he s1 ic => ?_))
  · rcases S.par y.1 (List.of_mem_zip hy).1 with z | z
    · exact Or.inl z
    · exact Or.inr ⟨z, PySem.W.cellsFrom_some _ _ _ (Or.inl z)⟩
  · subst he
    refine ⟨(e0.mod.nolimit.keeps keep).keeps ic.toInCall.keep, codeAny_func ?_⟩
    obtain ⟨t, ht, hq⟩ := hbody cdv A outer s H vs Q E (deeper_guards hgu) (hr.deeper _) hsp
    have I := inv_start (CX := CX0) (mg := mg) (E := E) S hr.hd e0 (len _ _ _ _ hsp) rv ic
    refine wpAny_mono (ht.nox.run [] s1 _ H _ I hq) (fun fl s' hs => ?_) fun _ _ hs => hs
    rcases fl with _ | _ | _ | u
    all_goals first
      | (obtain ⟨v, σ', H', J, r', q'⟩ := hs; exact ⟨v, H', J.os, J.bare, J.base, J.hok, r', q'⟩)
      | (obtain ⟨σ', H', J, q'⟩ := hs; exact ⟨V.non, H', J.os, J.bare, J.base, J.hok, rfl, q'⟩)
      | (obtain ⟨_, _, _, q'⟩ := hs; exact False.elim q')
end
end Wr

set_option Elab.async false
set_option linter.all false
set_option maxRecDepth 100000
set_option maxHeartbeats 4000000
namespace Wr
open PySem PySem.Spec PyProof.Rows L2 Evl
/-! ### TooLong -/
abbrev oeTail : List Value := [.type "OverflowError", .type "ArithmeticError", .type "Exception", .type "BaseException", .type "object"]
theorem oe_tail : TailOk oeTail "OverflowError" "OverflowError.__new__" := ⟨⟨_, _, F.excBase_OverflowError⟩, by decide +kernel, by decide +kernel, by decide +kernel, by decide +kernel, fun _ => by kernel_rfl⟩
theorem oe_init : InitOk oeTail "OverflowError.__new__" "OverflowError.__init__" := fun _ _ _ _ _ _ _ _ _ _ _ _ _ _ _ _ _ _ _ _ _ _ _ _ _ _ _ _ hC he hl hq => HandSPX.init_base F.excBase_OverflowError (fun _ => rfl) hC he hl hq
abbrev OeC (K : PySem.W.Frag) (C : Addr) : Prop := OexT K C oeTail "OverflowError" "OverflowError.__new__"
abbrev s_tli : Stmt := inClass (topS 6) 0
theorem sc_tli : FnScope ["self", "many"] ["self", "many"] (defScope s_tli) := ⟨rfl, rfl, rfl, by decide +kernel, rfl, by decide +kernel, by decide +kernel⟩
structure TlC (K : PySem.W.Frag) (mg : Str → Option Value) (C fI : Addr) (fdI : FuncData) : Prop where
  T : OeC K C
  F : Fun K "__init__" "TooLong.__init__" s_tli fI fdI
  b : Binds K fdI ["self", "many"] []
  m : mg "TooLong" = some (.ref C)
  i : PySem.W.findIn K (.ref C) "__init__" = some (some (.ref fI))
  t : PySem.W.typeIn K (.ref fI) = some (.type "function")
  n : PySem.W.findIn K (.ref C) "many" = some none
  v : PySem.W.findCls K (.type "OverflowError") (.type "type") "__init__" = some (.val (.builtin "OverflowError.__init__"))
  ob : mg "OverflowError" = none
/-- the error is made -/
def XT (C : Addr) (H : Hp) (n : Nat) (E : XK) : Prop := ∀ dx Hf, H dx = none → Ex H Hf → Hf dx = some (.xd [("many", .int (n : Nat))]) → E (.ref C) (some dx) Hf
def spTli (K : PySem.W.Frag) : Sp := fun vs H Q _ => ∃ (a C : Addr) (n : Nat), vs = [.ref a, .int (n : Nat)] ∧ n ≤ 1000000000 ∧ OeC K C ∧ PySem.W.findIn K (.ref C) "many" = some none ∧ H a = some (exo a C none) ∧
  ∀ dx, H dx = none → dx ≠ a → Q .non (upd (upd H dx (exd dx [("many", .int (n : Nat))])) a (exo a C (some dx)))
theorem bt_oe : bootBuiltins "OverflowError" = some (.type "OverflowError") := by decide +kernel
theorem ty_oe : typeOf (.type "OverflowError") = pure (.type "type") := by kernel_rfl
theorem log_le {n : Nat} (h : n ≤ 1000000000) : n.log2 < 1920 := by
  by_cases h0 : n = 0
  · rw [h0]
    decide
  · exact (Nat.log2_lt h0).mpr (Nat.lt_of_le_of_lt h (Nat.lt_of_lt_of_le (by decide : 1000000000 < 2 ^ 30) (Nat.pow_le_pow_right (by decide) (by decide))))
section
variable {P : Program} {w : World} {K : PySem.W.Frag} {mg : Str → Option Value} {base : Heap} {f g C fI : Addr} {fd gd fdI : FuncData}
theorem ok_tli (T : TlC K mg C fI fdI) : FnOk P w K mg base CX0 1 fI fdI ["self", "many"] (spTli K) := by
  refine T.F.ok sc_tli (fun vs H Q E ⟨a, C, n, e, _⟩ => by rw [e]; rfl) (fun cdv A outer s H vs Q E hr h => ?_)
  obtain ⟨a, C', n, rfl, hn, hC, hno, ha, q⟩ := h
  refine ⟨_, pss_cons (ps_expr (pe_binit (tl := oeTail) (Bn := "OverflowError") (newId := "OverflowError.__new__") oe_init rfl T.ob bt_oe ty_oe (by decide +kernel) (by decide +kernel) (by decide) (by decide) T.v (pa_cons (pv 0) (pa_cons (pe_joined (.cons pe_str (.cons (pe_fmt (pv 1)) (.cons pe_str .nil)))) pa_nil))))
    (pss_one (ps_first (tl := oeTail) (Bn := "OverflowError") (newId := "OverflowError.__new__") (pv 0) (pv 1))), ?_⟩
  have hsl : sizeLine = 16777216 := sizeLine_eq
  have lg : ((n : Nat) : Int).natAbs.log2 < 1920 := log_le hn
  have l1 := int_text_len_1921 lg
  have la : ("a part would have " : Str).length = 18 := by decide +kernel
  have lb : (" rows" : Str).length = 5 := by decide +kernel
  have l0 : (Str.empty : Str).length = 0 := by decide +kernel
  refine ⟨.ref a, rfl, _, rfl, ?_, .int (n : Nat), rfl, .inr ⟨_, rfl, lg, _, rfl, ?_, _, rfl, ?_, a, C', _, rfl, by show 1 ≤ 1000; decide, hC, ha, ?_⟩⟩
  · rw [PySem.Str.length_append]; omega
  · rw [PySem.Str.length_append, PySem.Str.length_append]; omega
  · rw [PySem.Str.length_append, PySem.Str.length_append, PySem.Str.length_append]; omega
  · exact ⟨.int (n : Nat), rfl, .ref a, rfl, a, C', rfl, hC, hno, ha, q⟩
end
/-! ### raise TooLong(e) -/
section
variable {X : Cx} {C fI : Addr} {fdI : FuncData} {e : Expr} {te : TE} {p pos rpos : Pos} {W : WX} {σ : L2.St} {H : Hp} {b : List Addr}
theorem mk_tl {E : XK} {K : PySem.W.Frag} {n : Nat} (hT : OeC K C) (hn : PySem.W.findIn K (.ref C) "many" = some none) (h : ED K b te σ H (.int (n : Nat))) (hl : n ≤ 1000000000) (hx : XT C H n E) : tMkO C (spTli K) [] (tCons te tNil) σ H E :=
  h H (Ex.refl H) _ fun v H1 x1 hv => ⟨by show 1 ≤ 1000; decide, fun a ha => by
    have ev := dq_int hv
    subst ev
    refine ⟨a, C, n, rfl, hl, hT, hn, upd_same, fun dx hdx hne => ⟨rfl, dx, [("many", .int (n : Nat))], upd_same, by rw [upd_ne hne]; exact upd_same, ?_, ?_⟩⟩
    · rw [upd_ne hne] at hdx
      exact hdx
    · rw [upd_ne hne] at hdx
      have h0 : H dx = none := by
        cases z : H dx with
        | none => rfl
        | some o => rw [x1 _ _ z] at hdx; cases hdx
      refine hx dx _ h0 (fun c o z => ?_) upd_same
      have z1 := x1 _ _ z
      have hc : c ≠ a := fun e => by rw [e, ha] at z1; cases z1
      have hcd : c ≠ dx := fun e => by rw [e, hdx] at z1; cases z1
      rw [upd_ne hcd, del_ne hc, upd_ne hc, upd_ne hcd, upd_ne hc]
      exact z1⟩
theorem ps_tl (T : TlC X.K X.mg C fI fdI) (hc : X.calm = true) (tk : Takes X W) (hr : Room 2 X.A) (ha : PE X e te) (hg : Gl X "TooLong" := by rfl)
    (he : starEach [e] X.env = (false, eval e X.env) :: starEach [] X.env := by rfl) : PS X (.Raise (some (.Call (.Name "TooLong" p) [e] [] pos)) none rpos) (fun _ σ H => tMkO C (spTli X.K) [] (tCons te tNil) σ H fun cls d H' => W cls d σ H') :=
  ps_raise hc tk (pmk_t T.T T.i T.t (ok_tli (P := X.prog) (w := X.w) (base := X.base) T) hr T.b pass0 hg T.m (pa_cons ha pa_nil he) (by decide) he rfl)
end
end Wr

set_option Elab.async false
set_option linter.all false
set_option maxRecDepth 100000
set_option maxHeartbeats 4000000
namespace Wr
open PySem PySem.Spec PyProof.Rows L2 Evl
/-! ### made, whatever comes -/
def spMpX (K : PySem.W.Frag) (C : Addr) : Sp := fun vs H Q E => ∃ (b : List Addr) (v1 v2 v3 : V) (t : TV) (hs : Hds), vs = [v1, v2, v3] ∧ Kn b H ∧ Dq K b H v1 (.str t.x) ∧ Dq K b H v2 (.tuple (argN t.k)) ∧ Dq K b H v3 (.tuple t.ss) ∧ HdC hs ∧ TVok hs t ∧ (t.rows.length ≤ 60 → ∀ u H', Ex H H' → Dq K b H' u t.p → Q u H') ∧ (60 < t.rows.length → XT C H t.rows.length E)
def spMdX (K : PySem.W.Frag) (C : Addr) : Sp := fun vs H Q E => ∃ (b : List Addr) (v : V) (ts : List TV) (hs : Hds), vs = [v] ∧ Kn b H ∧ Dq K b H v (.tuple (ts.map TV.d)) ∧ TrV hs ts ∧ (longV ts = none → ∀ u H', Ex H H' → Dq K b H' u (.tuple (ts.map TV.p)) → Q u H') ∧ ∀ t, longV ts = some t → XT C H t.rows.length E
theorem XT.mono {C : Addr} {H H' : Hp} {n : Nat} {E : XK} (h : XT C H n E) (x : Ex H H') : XT C H' n E := fun dx Hf h0 x' e => h dx Hf (by
  cases z : H dx with
  | none => rfl
  | some o => rw [x _ _ z] at h0; cases h0) (x.trans x') e
theorem rows_le {hs : Hds} {t : TV} (C : HdC hs) (h : TVok hs t) : t.rows.length ≤ 1000000 := by
  have h1 : (saysR (sayR t.w t.n) 0 t.ss).length ≤ 6 * sayM t.w t.n := says_len6 h.ss.1 fun s hs' => sayR_len C (h.ss.2 s hs')
  have h2 := sayM_le h.w4 h.n4
  unfold TV.rows rowsT
  rw [List.length_append]
  show _ + 2 ≤ _
  omega
section
variable {P : Program} {w : World} {K : PySem.W.Frag} {mg : Str → Option Value} {base : Heap} {C fI f f2 f3 f4 f5 f6 f7 g g2 : Addr} {fdI fd fd2 fd3 fd4 fd5 fd6 fd7 gd gd2 : FuncData} {tk : Tok}
theorem ok_mpartX (TT : TlC K mg C fI fdI) (D : Def K mg "made_part" s_mpart ["name", "names", "sayings"] f fd) (Ds : Def K mg "sayings_rows" s_ssrows ["sayings", "start"] f2 fd2) (Dr : Def K mg "saying_rows" s_srows ["saying", "start"] f3 fd3) (Dv : Def K mg "value_rows" s_vrows ["value"] f4 fd4) (Di : Def K mg "if_rows" s_ifrows ["value", "first", "second", "start"] f5 fd5) (Dw : Def K mg "while_rows" s_whrows ["value", "sayings", "start"] f6 fd6) (Dt : Def K mg "try_rows" s_trrows ["first", "name", "second", "start"] f7 fd7) (B : Blt mg) (hm : mg "MOST_PART_ROWS" = some (.int 60 tk)) :
    FnOk P w K mg base (L2.CX P w) 21 f fd ["name", "names", "sayings"] (spMpX K C) := by
  refine D.F.okX sc_mpart (fun vs H Q E ⟨_, _, _, _, _, _, e, _⟩ => by rw [e]; rfl) (fun cdv A outer s H vs Q E hr h => ?_)
  obtain ⟨b, v1, v2, v3, t, hs, rfl, kn, h1, h2, h3, C', ht, q, qx⟩ := h
  have Gs := (ok_rows (P := P) (w := w) (base := base) ht.w4 Dr Ds Dv Di Dw Dt B t.n ht.n4).2
  have hn4 := ht.n4
  have rs : Room (3 * t.n + 8) _ := hr.mono (by omega)
  refine ⟨_, pss_cons (ps_set (i := 3) sc_mpart.nd rfl (Or.inl rfl) (pe_lst (StX.pa_star (pe_cd Ds Gs rs (pa_cons (pv 2) (pa_cons pe_int pa_nil))) (pa_cons (pe_tupF (pa_cons pe_str (pa_cons pe_int pa_nil))) (pa_cons (pe_tupF (pa_cons pe_str pa_nil)) pa_nil)))))
    (pss_cons (ps_if (pt_cmpR op_gt (pe_callB call_lenD1 rfl B.len bb_len (pa_cons (pv 3) pa_nil)) (pe_gI hm) (nomark _)) (pss_one (ps_tl (W := fun cls d _ H => E cls d H) TT rfl (takes_of rfl rfl rfl rfl) (hr.mono (by decide)) (pe_callB call_lenD1 rfl B.len bb_len (pa_cons (pv 3) pa_nil)))) pss_nil)
    (pss_one (ps_ret (pe_tupF (pa_cons (pv 0) (pa_cons (pv 1) (pa_cons (pe_callTy call_tupF rfl B.tuple bt_tuple (pa_cons (pv 3) pa_nil)) pa_nil))))))), ?_⟩
  have hsl : sizeLine = 16777216 := sizeLine_eq
  have hle := rows_le C' ht
  have el := (el_call (K := K) (b := b) (σ := [some v1, some v2, some v3, none]) (pre := SSpre t.w t.n) (f := fun ds => saysR (sayR t.w t.n) (stN (ds.getD 1 .none)) (tupL (ds.headD .none))) (E := E0) kn (ea_cons (ed_var (i := 2) rfl h3) (ea_cons (ed_nat (i := 0)) ea_nil)) ⟨t.ss, hs, 0, rfl, C', ht.ss⟩).ed kn
  have ea := ea_star el (ea_cons (ed_tup kn (ea_cons (ed_str (x := "put")) (ea_cons (ed_int (i := 0)) ea_nil)) (by rw [hsl]; show 2 ≤ 16777216; decide)) (ea_cons (ed_tup kn (ea_cons (ed_str (x := "back")) ea_nil) (by decide)) ea_nil))
  have ea : EA K b _ _ H t.rows := ea
  refine g_lst (K := K) (b := b) (ds := t.rows) kn ea (by omega) fun R us H1 hR x1 h1' dus => ?_
  have kn1 := kn.up x1
  have lus := dps_len dus
  have dR : Dq K b H1 (.ref R) (.list t.rows) := .lst (.inl (.inl (by rw [hid_ne (kn.new hR)]; exact h1'))) dus
  have tt := et_t (ed_gt (K := K) (b := b) (ed_lenV (σ := [some v1, some v2, some v3, some (.ref R)]) (j := 3) rfl dR) (ed_int (i := 60)))
  refine tt H1 (Ex.refl H1) _ fun H2 x2 => ?_
  have x12 := x1.trans x2
  have kn2 := kn.up x12
  by_cases h60 : t.rows.length ≤ 60
  · have hd : decide ((60 : Int) < ((t.rows.length : Nat) : Int)) = false := decide_eq_false (by omega)
    rw [hd, if_neg Bool.false_ne_true]
    refine gnext ?_
    refine ⟨v1, rfl, v2, rfl, .ref R, rfl, R, us, rfl, .inl (.inl (x2 _ _ h1')), fun l o hl ho => ⟨by rw [hsl]; show 3 ≤ 16777216; decide, fun p o' hp ho' => ?_⟩⟩
    have xl := Ex.new (o := HO.frz o (.tup us)) hl
    have dl : Dq K b (upd H2 l (.frz o (.tup us))) (.ref l) (.tuple t.rows) := dq_newT kn2 hl ho (DqAll.up dus x2)
    have x2l := x12.trans xl
    exact q h60 _ _ (x2l.trans (Ex.new hp)) (dq_newT (kn.up x2l) hp ho' (.cons (Dq.up h1 x2l) (.cons (Dq.up h2 x2l) (.cons dl .nil))))
  · have hd : decide ((60 : Int) < ((t.rows.length : Nat) : Int)) = true := decide_eq_true (by omega)
    rw [hd, if_pos rfl]
    exact mk_tl (K := K) (b := b) (n := t.rows.length) TT.T TT.n (ed_lenV (σ := [some v1, some v2, some v3, some (.ref R)]) (j := 3) rfl (Dq.up dR x2)) (by omega) ((qx (by omega)).mono x12)
theorem ok_madeX (D : Def K mg "made" s_made ["tree"] f fd) (Dp : Def K mg "made_part" s_mpart ["name", "names", "sayings"] f2 fd2) (Gp : FnOk P w K mg base (L2.CX P w) 21 f2 fd2 ["name", "names", "sayings"] (spMpX K C)) (B : Blt mg) : FnOk P w K mg base (L2.CX P w) 22 f fd ["tree"] (spMdX K C) := by
  refine D.F.okX sc_made (fun vs H Q E ⟨_, _, _, _, e, _⟩ => by rw [e]; rfl) (fun cdv A outer s H vs Q E hr h => ?_)
  obtain ⟨b, v, ts, hs, rfl, kn, h1, T, q, qx⟩ := h
  refine ⟨_, pss_one (ps_ret (pe_callTy call_tupF rfl B.tuple bt_tuple (pa_cons (pe_lcX (Eb := E) (own := [("name", 1), ("names", 2), ("sayings", 3)]) (g := gTup K 3 (gCons (gName 1) (gCons (gName 2) (gCons (gName 3) gNil)))) (tt := tYes) rfl sc_made.nd rfl rfl (takes_of rfl rfl rfl rfl) (pi_tup (pv 0)) (blkOk_by (N := NMd) (sc := defScope s_made) (by decide +kernel))
    (fun _ _ _ _ _ _ => pg_tup rfl (pgs_cons (pg_name (i := 1) sc_made.nd rfl (Or.inl rfl)) (pgs_cons (pg_name (i := 2) sc_made.nd rfl (Or.inl rfl)) (pgs_cons (pg_name (i := 3) sc_made.nd rfl (Or.inl rfl)) pgs_nil)))) (fun _ _ _ _ _ _ => pts_nil)
    (fun _ _ _ _ _ _ hx => pe_callS (E := fun _ => E) Gp hr rfl Dp.m Dp.F.kp Dp.b hx (pa_cons (pv 1) (pa_cons (pv 2) (pa_cons (pv 3) pa_nil))))) pa_nil))), ?_⟩
  have hsl : sizeLine = 16777216 := sizeLine_eq
  cases h1 with
  | @tup at0 xs _ g1 gN g2 =>
  have lxs := dps_len g2
  rw [List.length_map] at lxs
  have l6 := T.l6
  refine ⟨.ref at0, rfl, at0, rfl, ⟨_, ex_t hid_le g1⟩, fun Dl hD => ?_⟩
  have Db : Dl ∉ b := kn.new hD
  refine lc_it walk_tup (fun i H3 => Ex H H3 ∧ (∀ t ∈ ts.take i, t.rows.length ≤ 60) ∧ ∃ us, H3 Dl = some (.lst us) ∧ DqAll K (Dl :: b) H3 us ((ts.take i).map TV.p)) ⟨Ex.new hD, fun t ht => by rw [List.take_zero] at ht; exact absurd ht List.not_mem_nil, [], upd_same, .nil⟩ (fun i H3 _ p => ex_t p.1 (ex_t hid_le g1)) ?_ ?_
  · intro i x H3 H3' hi ⟨x3, s60, us, e1, e2⟩ ⟨eH, hx⟩
    subst eH
    obtain ⟨e, hei, de⟩ := dps_at g2 hx
    obtain ⟨t, hti, ed⟩ : ∃ t, ts[i]? = some t ∧ e = t.d := by
      rw [List.getElem?_map] at hei
      cases z : ts[i]? with
      | none => rw [z] at hei; cases hei
      | some t =>
        rw [z] at hei
        exact ⟨t, rfl, (Option.some.inj hei).symm⟩
    subst ed
    have htm := List.mem_of_getElem? hti
    have dx : Dq K (Dl :: b) H3' x t.d := dp_ex (hid_ex x3) _ _ (Dq.hide de hD)
    obtain ⟨a2, v1, vn, vr, rfl, k1, k2, k3, k4⟩ := dq_td dx
    refine ⟨a2, [v1, vn, vr], rfl, ex_t hid_le k1, rfl, v1, [vn, vr], rfl, vn, [vr], rfl, vr, [], rfl, rfl, rfl, ?_⟩
    refine et_yes (H := H3') _ (Ex.refl _) _ fun H4 x4 => ?_
    rw [if_pos rfl]
    have kn4 : Kn (Dl :: b) H4 := fun z hz' => by
      rcases List.mem_cons.mp hz' with rfl | hz'
      · rw [x4 _ _ e1]; intro q; cases q
      · exact (kn.up x3).up x4 z hz'
    refine ⟨v1, rfl, vn, rfl, vr, rfl, Dl :: b, v1, vn, vr, t, hs, rfl, kn4, Dq.up k2 x4, Dq.up k3 x4, Dq.up k4 x4, T.C, T.ok t htm, fun h60 u H5 x5 du => ?_, fun h60 => ?_⟩
    · have lus := dps_len e2
      rw [List.length_map, List.length_take] at lus
      refine ⟨us, x5 _ _ (x4 _ _ e1), by omega, Ex.mut (x3.trans (x4.trans x5)) hD, fun t' ht' => ?_, us ++ [u], upd_same, ?_⟩
      · rw [List.take_add_one, hti] at ht'
        rcases List.mem_append.mp ht' with z | z
        · exact s60 t' z
        · rw [List.mem_singleton.mp z]
          exact h60
      · rw [List.take_add_one, hti, List.map_append]
        exact dps_ex put_ex _ _ (dps_app (DqAll.up e2 (x4.trans x5)) (.cons du .nil))
    · exact (qx t (long_at hti h60 s60)).mono (x3.trans x4)
  · intro H3 ⟨x3, s60, us, e1, e2⟩
    rw [lxs, List.take_of_length_le (Nat.le_refl _)] at e2 s60
    refine ⟨Dl, us, rfl, .inl (.inl e1), fun l o hl ho => ?_⟩
    exact q (long_no s60) _ _ (x3.trans (Ex.new hl)) (dq_newT (kn.up x3) hl ho (dps_ex show_ex _ _ e2))
end
end Wr

set_option Elab.async false
set_option linter.all false
set_option maxRecDepth 100000
set_option maxHeartbeats 4000000
namespace Wr
open PySem PySem.Spec PyProof.Rows L2 Evl
/-! ### isinstance of a caught error with fields -/
structure IsxC (K : PySem.W.Frag) (C : Addr) : Prop where
  cl : (PySem.W.clsIn K C).isSome = true
  ga : PySem.W.findIn K (.ref C) "__getattribute__" = some (some (.builtin "BaseException.__getattribute__"))
  gg : PySem.W.findIn K (.ref C) "__getattr__" = some none
  sb : PySem.W.subIn K (.ref C) (.type "BaseException") = some true
  ca : PySem.W.findIn K (.ref C) "__class__" = some (some (.builtin "object.__class__"))
  sp : PySem.W.specialIn K (.builtin "object.__class__") "__get__" = some (some (.builtin "getset_descriptor.__get__"))
  tk : PySem.W.takesIn K (.builtin "object.__class__") = some true
  mr : PySem.W.mroIn K C (.type "object") = some true
theorem vals_refs : ∀ {cs : List Addr} {us : List Value}, Vals (cs.map V.ref) us → us = cs.map Value.ref
  | [], _, h => by
    cases h
    rfl
  | c :: cs, _, h => by
    cases h with
    | cons h1 h2 =>
      cases h1
      rw [vals_refs h2]
      rfl
def rIsxC (K : PySem.W.Frag) (C a : Addr) (cls : Value) (d : Option Addr) : List V → Hp → VK → Prop := fun xs H Q => cls = .ref C ∧ ∃ (dd : Addr) (fs : List (Str × V)) (c : V) (cv : Value) (k : Bool), d = some dd ∧ H dd = some (.xd fs) ∧ xs = [.ref a, c] ∧ (∀ u, RelV c u → u = cv) ∧ PySem.W.kitOne K (.ref C) cv = some k ∧ Q (.bl k) H
def rIsxT (K : PySem.W.Frag) (C a : Addr) (cls : Value) (d : Option Addr) : List V → Hp → VK → Prop := fun xs H Q => cls = .ref C ∧ ∃ (dd : Addr) (fs : List (Str × V)) (t : Addr) (cs : List Addr) (k : Bool), d = some dd ∧ H dd = some (.xd fs) ∧ xs = [.ref a, .ref t] ∧ SqT K H t (cs.map V.ref) ∧ PySem.W.kitAny K (.ref C) (cs.map Value.ref) = some k ∧ Q (.bl k) H
section
variable {X : Cx} {a C : Addr} {oe : Obj} {cls : Value} {d : Option Addr} {pn : List (Addr × Obj)}
theorem at_suite {pins : List (Addr × Obj)} {σ : L2.St} {H : Hp} {s : Shared} {dd : Addr} {fs : List (Str × V)} (hz : Zc (.ref C) (some dd) oe) (hf : ∃ vs, oe.data = .fields vs) (I : L2.Inv (X.suite a ((a, oe) :: pn)) pins σ H s) (hd : H dd = some (.xd fs)) : ∃ od, PySem.W.InstAt s.heap a oe C (some od) := by
  obtain ⟨hget, _⟩ := I.pin (a, oe) (List.mem_append.mpr (.inl List.mem_cons_self))
  obtain ⟨vs, hv⟩ := hf
  obtain ⟨mA, hns, hr⟩ := (show ObjOk X.prog X.w H s.heap dd (.xd fs) from I.hok dd _ hd)
  obtain ⟨od, ho, _⟩ := lookIn_ns hns
  exact ⟨od, hget, hz.1, by unfold PySem.W.notCls; rw [hv] <;> rfl, by rw [hz.2]; exact ho⟩
theorem call_isxC (T : IsxC X.K C) (hz : Zc cls d oe) (hf : ∃ vs, oe.data = .fields vs) : CallR (X.suite a ((a, oe) :: pn)) (.builtin "isinstance") (rIsxC X.K C a cls d) := by
  intro pins s σ H xs us Q I r ⟨ec, dd, fs, c, cv, k, ed, hd, ex, hu, hk, q⟩
  subst ec ed ex
  obtain ⟨od, J⟩ := at_suite hz hf I hd
  cases r with
  | cons rx rr =>
    cases rr with
    | cons rt rr =>
      cases rr
      cases rx
      have ec := hu _ rt
      subst ec
      exact PySem.W.kia_one (PySem.W.kitx_exc T.cl T.ga T.gg T.sb T.ca T.sp T.tk T.mr) I.kIn J hk (fun z => nomatch z) fun tk => ⟨.bl k, H, I.kept (t' := tk) fun _ _ z => z, rfl, q⟩
theorem call_isxT (T : IsxC X.K C) (hz : Zc cls d oe) (hf : ∃ vs, oe.data = .fields vs) : CallR (X.suite a ((a, oe) :: pn)) (.builtin "isinstance") (rIsxT X.K C a cls d) := by
  intro pins s σ H xs us Q I r ⟨ec, dd, fs, t, cs, k, ed, hd, ex, ht, hk, q⟩
  subst ec ed ex
  obtain ⟨od, J⟩ := at_suite hz hf I hd
  cases r with
  | cons rx rr =>
    cases rr with
    | cons rt rr =>
      cases rr
      cases rx
      cases rt
      obtain ⟨its, r', ⟨⟨c1, dd1, data1, sl1⟩, ho, hc, n, hd1⟩, _⟩ := I.tuple ht
      have ei := vals_refs r'
      subst ei
      dsimp only at hc hd1
      subst hc hd1
      exact PySem.W.kia_tup (PySem.W.kitx_exc T.cl T.ga T.gg T.sb T.ca T.sp T.tk T.mr) I.kIn J ho hk (fun z => nomatch z) fun tk => ⟨.bl k, H, I.kept (t' := tk) fun _ _ z => z, rfl, q⟩
end
/-! ### told -/
structure OthT (K : PySem.W.Frag) (mg : Str → Option Value) (C cU : Addr) (cs : List Addr) : Prop where
  len : cs.length = 10
  m0 : mg "NoHook" = some (.ref (cs.getD 0 0))
  m1 : mg "NoMark" = some (.ref (cs.getD 1 0))
  m2 : mg "NoNumbers" = some (.ref (cs.getD 2 0))
  m3 : mg "NoPart" = some (.ref (cs.getD 3 0))
  m4 : mg "NoProgram" = some (.ref (cs.getD 4 0))
  m5 : mg "NoRow" = some (.ref (cs.getD 5 0))
  m6 : mg "NoText" = some (.ref (cs.getD 6 0))
  m7 : mg "NoWord" = some (.ref (cs.getD 7 0))
  m8 : mg "TooMany" = some (.ref (cs.getD 8 0))
  m9 : mg "Busy" = some (.ref (cs.getD 9 0))
  mU : mg "Unsound" = some (.ref cU)
  any : PySem.W.kitAny K (.ref C) (cs.map Value.ref) = some false
  un : PySem.W.kitOne K (.ref C) (.ref cU) = some false
  ov : PySem.W.kitOne K (.ref C) (.type "OverflowError") = some true
abbrev s_to : Stmt := topS 39
abbrev NTo : List Str := ["_law_tree_here", "_law_others", "e"]
theorem sc_to : FnScope NTo ["_law_tree_here"] (defScope s_to) := ⟨rfl, rfl, rfl, by decide +kernel, rfl, by decide +kernel, by decide +kernel⟩
section
variable {P : Program} {w : World} {K : PySem.W.Frag} {mg : Str → Option Value} {base : Heap} {C cU fI f g : Addr} {cs : List Addr} {fdI fd gd : FuncData}
theorem ok_to (D : Def K mg "_law_told" s_to ["_law_tree_here"] f fd) (Dm : Def K mg "made" s_made ["tree"] g gd) (Gm : FnOk P w K mg base (L2.CX P w) 22 g gd ["tree"] (spMdX K C)) (TT : TlC K mg C fI fdI) (IT : IsxC K C) (XF : XfC K C) (O : OthT K mg C cU cs)
    (te : PySem.W.exmOne K (.ref C) (.ref C) = some true) (B : Blt mg) : FnOk P w K mg base CX0 23 f fd ["_law_tree_here"] (spDue K) := by
  refine D.F.ok sc_to (fun vs H Q E ⟨_, _, _, _, e, _⟩ => by rw [e]; rfl) (fun cdv A outer s H vs Q E hr h => ?_)
  obtain ⟨b, v, hs, ts, rfl, kn, h1, T, q⟩ := h
  refine ⟨_, pss_one (ps_try_as (i := 2) rfl rfl sc_to.nd rfl rfl ⟨rfl, by decide, .inl TT.m⟩ takes0
      (fun W pn xe tkk _ => pss_one (ps_ret (pe_callS (E := WE W) Gm hr rfl Dm.m Dm.F.kp Dm.b (fun σ => passAt tkk σ) (pa_cons (pv 0) pa_nil))))
      (fun a oe cls d pn hz hf => pss_cons (ps_set (i := 1) sc_to.nd rfl (Or.inl rfl) (pe_callB (r := rIsxT K C a cls d) (call_isxT IT hz hf) rfl B.isi bb_isinstance (pa_cons (pv 2) (pa_cons (pe_tupF (pa_cons (pe_gR O.m0) (pa_cons (pe_gR O.m1) (pa_cons (pe_gR O.m2) (pa_cons (pe_gR O.m3) (pa_cons (pe_gR O.m4) (pa_cons (pe_gR O.m5) (pa_cons (pe_gR O.m6) (pa_cons (pe_gR O.m7) (pa_cons (pe_gR O.m8) (pa_cons (pe_gR O.m9) pa_nil))))))))))) pa_nil))))
        (pss_cons (ps_if (PW.pt (pw_or (pt_val (pv 1)) (pw_or (pt_val (pe_callB (r := rIsxC K C a cls d) (call_isxC IT hz hf) rfl B.isi bb_isinstance (pa_cons (pv 2) (pa_cons (pe_gR O.mU) pa_nil)))) (pw_or1 (pt_not (pt_val (pe_callB (r := rIsxC K C a cls d) (call_isxC IT hz hf) rfl B.isi bb_isinstance (pa_cons (pv 2) (pa_cons (pe_tyN rfl TT.ob bt_oe) pa_nil))))))))) (pss_one (ps_ret pe_str)) pss_nil)
        (pss_one (ps_ret (pe_xf XF TT.n hz hf (pv 2))))))), ?_⟩
  have hsl : sizeLine = 16777216 := sizeLine_eq
  refine ⟨v, rfl, b, v, ts, hs, rfl, kn, h1, T, fun hn u H1 x1 hu => q u H1 x1 ?_, fun t ht dx Hf hdx xf hf => ⟨true, te, fun _ a ha => ?_, fun z => nomatch z⟩⟩
  · unfold dueD
    rw [hn]
    exact hu
  · have eD : dueD ts = .int (t.rows.length : Nat) := by
      unfold dueD
      rw [ht]
    refine ⟨.ref a, rfl, by show 10 ≤ sizeLine; omega, fun tt oo htt hoo => ⟨rfl, dx, _, tt, cs, false, rfl, Ex.new htt _ _ hf, rfl, ?_, O.any, ?_⟩⟩
    · have e : cs.map V.ref = [.ref (cs.getD 0 0), .ref (cs.getD 1 0), .ref (cs.getD 2 0), .ref (cs.getD 3 0), .ref (cs.getD 4 0), .ref (cs.getD 5 0), .ref (cs.getD 6 0), .ref (cs.getD 7 0), .ref (cs.getD 8 0), .ref (cs.getD 9 0)] := by
        match cs, O.len with
        | [_, _, _, _, _, _, _, _, _, _], _ => rfl
      rw [e]
      exact .inl (.inr ⟨_, upd_same⟩)
    · have hf' := Ex.new (o := HO.frz oo (.tup [.ref (cs.getD 0 0), .ref (cs.getD 1 0), .ref (cs.getD 2 0), .ref (cs.getD 3 0), .ref (cs.getD 4 0), .ref (cs.getD 5 0), .ref (cs.getD 6 0), .ref (cs.getD 7 0), .ref (cs.getD 8 0), .ref (cs.getD 9 0)])) htt _ _ hf
      refine ⟨.bl false, rfl, false, rfl, ?_⟩
      show (if false = true then _ else _)
      rw [if_neg Bool.false_ne_true]
      refine ⟨.ref a, rfl, rfl, dx, _, .ref cU, .ref cU, false, rfl, hf', rfl, fun u hu => by cases hu; rfl, O.un, false, rfl, ?_⟩
      show (if false = true then _ else _)
      rw [if_neg Bool.false_ne_true]
      refine ⟨.ref a, rfl, rfl, dx, _, .ty "OverflowError", .type "OverflowError", true, rfl, hf', rfl, fun u hu => by cases hu; rfl, O.ov, true, rfl, ?_⟩
      show (if (!true) = true then _ else _)
      rw [show (!true) = false from rfl, if_neg Bool.false_ne_true]
      refine gnext ?_
      refine ⟨.ref a, rfl, rfl, rfl, dx, _, _, rfl, hf', rfl, ?_⟩
      refine q _ _ (xf.trans (Ex.new htt)) ?_
      rw [eD]
      exact .int _
end
end Wr

set_option Elab.async false
set_option linter.all false
set_option maxRecDepth 100000
set_option maxHeartbeats 4000000
namespace Wr
open PySem PySem.Spec PyProof.Rows L2 Evl
/-! ### the rows, as data -/
def wordsR : List Str := opsW ++ (oneW ++ (["done", "get", "set", "call", "if", "go", "try", "put"] : List Str))
theorem wordsR_ok {x : Str} (h : x ∈ wordsR) : (PyData.strOk x = true ∧ x.length ≤ 8) ∧ (reprText x).length ≤ 10 := by
  have q : (wordsR.all fun x => (PyData.strOk x && decide (x.length ≤ 8)) && decide ((reprText x).length ≤ 10)) = true := by decide +kernel
  have := List.all_eq_true.mp q x h
  rw [Bool.and_eq_true, Bool.and_eq_true] at this
  exact ⟨⟨this.1.1, of_decide_eq_true this.1.2⟩, of_decide_eq_true this.2⟩
def RwG (m : Nat) (r : PyData) : Prop := (∃ x ∈ wordsR, r = rw1 x) ∨ (∃ x ∈ wordsR, ∃ y : Str, r = rw2 x (.str y) ∧ PyData.strOk y = true ∧ y.length ≤ 8) ∨ (∃ d, r = rw2 "put" d ∧ worthD d = true) ∨ ∃ x ∈ wordsR, ∃ n, r = rowN x n ∧ n ≤ m
theorem RwG.mono {m m' : Nat} {r : PyData} (h : RwG m r) (hm : m ≤ m') : RwG m' r := by
  rcases h with h | h | h | ⟨x, hx, n, e, hn⟩
  · exact .inl h
  · exact .inr (.inl h)
  · exact .inr (.inr (.inl h))
  · exact .inr (.inr (.inr ⟨x, hx, n, e, Nat.le_trans hn hm⟩))
theorem opR {x : Str} (h : x ∈ opsW) : x ∈ wordsR := List.mem_append_left _ h
theorem oneR {x : Str} (h : x ∈ oneW) : x ∈ wordsR := List.mem_append_right _ (List.mem_append_left _ h)
theorem wR {x : Str} (h : x ∈ (["done", "get", "set", "call", "if", "go", "try", "put"] : List Str)) : x ∈ wordsR := List.mem_append_right _ (List.mem_append_right _ h)
theorem valR_g {hs : Hds} (C : HdC hs) {n : Nat} {d : PyData} (h : ValP hs n d) (m : Nat) : ∀ r ∈ valR n d, RwG m r := by
  induction h with
  | num p =>
    rw [valR_num p]
    intro r hr
    rw [List.mem_singleton.mp hr]
    exact .inr (.inr (.inl ⟨_, rfl, p⟩))
  | @name n x p =>
    intro r hr
    have hr : r ∈ [rw2 "get" (.str x)] := hr
    rw [List.mem_singleton.mp hr]
    exact .inr (.inl ⟨"get", wR (by decide +kernel), x, rfl, nxyz_ok p⟩)
  | @op n o c d p h1 _ i1 i2 =>
    rw [valR_op h1.nostr]
    intro r hr
    rcases List.mem_append.mp hr with hr | hr
    · exact (List.mem_append.mp hr).elim (i1 r) (i2 r)
    · rw [List.mem_singleton.mp hr]
      exact .inl ⟨o, opR p, rfl⟩
  | @call n x ds p _ ih =>
    intro r hr
    have hr : r ∈ ds.flatMap (valR n) ++ [rw2 "call" (.str x)] := hr
    rcases List.mem_append.mp hr with hr | hr
    · obtain ⟨e, he, hr⟩ := List.mem_flatMap.mp hr
      exact ih e he r hr
    · rw [List.mem_singleton.mp hr]
      exact .inr (.inl ⟨"call", wR (by decide +kernel), x, rfl, (C.nm _ p).2, name_len (C.nm _ p).1⟩)
theorem says_g {f : Nat → PyData → List PyData} : ∀ {ss : List PyData} {st : Nat}, (∀ s ∈ ss, ∀ st, ∀ r ∈ f st s, RwG (st + (f st s).length) r) → ∀ r ∈ saysR f st ss, RwG (st + (saysR f st ss).length) r
  | [], _, _ => fun r hr => by
    have hr : r ∈ ([] : List PyData) := hr
    exact absurd hr List.not_mem_nil
  | s :: ss, st, h => fun r hr => by
    have hr : r ∈ f st s ++ saysR f (st + (f st s).length) ss := hr
    have e : (saysR f st (s :: ss)).length = (f st s).length + (saysR f (st + (f st s).length) ss).length := by
      show (f st s ++ saysR f (st + (f st s).length) ss).length = _
      rw [List.length_append]
    rw [e]
    rcases List.mem_append.mp hr with hr | hr
    · exact (h s List.mem_cons_self st r hr).mono (by omega)
    · exact (says_g (fun s' h' => h s' (List.mem_cons_of_mem _ h')) r hr).mono (by omega)
theorem sayR_g {hs : Hds} (C : HdC hs) {w n : Nat} {d : PyData} (h : SayP hs w n d) : ∀ st, ∀ r ∈ sayR w n st d, RwG (st + (sayR w n st d).length) r := by
  induction h with
  | @set n x v p q =>
    intro st r hr
    have hr : r ∈ valR w v ++ [rw2 "set" (.str x)] := hr
    rcases List.mem_append.mp hr with hr | hr
    · exact valR_g C q _ r hr
    · rw [List.mem_singleton.mp hr]
      exact .inr (.inl ⟨"set", wR (by decide +kernel), x, rfl, nxyz_ok p⟩)
  | @one n o v p q =>
    intro st r hr
    rw [sayR_one] at hr ⊢
    rcases List.mem_append.mp hr with hr | hr
    · exact valR_g C q _ r hr
    · rw [List.mem_singleton.mp hr]
      exact .inl ⟨o, oneR p, rfl⟩
  | @ite n v ss ts q l1 _ l2 _ i1 i2 =>
    intro st r hr
    rw [sayR_ite] at hr ⊢
    have g1 := says_g (st := st + (valR w v).length + 1) i2
    have g2 := says_g (st := st + (valR w v).length + 1 + (saysR (sayR w n) (st + (valR w v).length + 1) ts).length + 1) i1
    have le : (ifR (sayR w n) st (valR w v) ss ts).length = (valR w v).length + 1 + (saysR (sayR w n) (st + (valR w v).length + 1) ts).length + 1 + (saysR (sayR w n) (st + (valR w v).length + 1 + (saysR (sayR w n) (st + (valR w v).length + 1) ts).length + 1) ss).length := by
      unfold ifR
      simp only [List.length_append, List.length_cons]
      omega
    rw [le]
    unfold ifR at hr
    rcases List.mem_append.mp hr with hr | hr
    · exact valR_g C q _ r hr
    rcases List.mem_cons.mp hr with hr | hr
    · exact .inr (.inr (.inr ⟨"if", wR (by decide +kernel), _, hr, by omega⟩))
    rcases List.mem_append.mp hr with hr | hr
    · exact (g1 r hr).mono (by omega)
    rcases List.mem_cons.mp hr with hr | hr
    · exact .inr (.inr (.inr ⟨"go", wR (by decide +kernel), _, hr, by omega⟩))
    · exact (g2 r hr).mono (by omega)
  | @whl n v ss q l1 _ i1 =>
    intro st r hr
    rw [sayR_whl q.nostr] at hr ⊢
    have g1 := says_g (st := st + (valR w v).length + 2) i1
    have le : (whileR (sayR w n) st (valR w v) ss).length = (valR w v).length + 2 + (saysR (sayR w n) (st + (valR w v).length + 2) ss).length + 1 := by
      unfold whileR
      simp only [List.length_append, List.length_cons, List.length_nil]
      omega
    rw [le]
    unfold whileR at hr
    rcases List.mem_append.mp hr with hr | hr
    · exact valR_g C q _ r hr
    rcases List.mem_cons.mp hr with hr | hr
    · exact .inr (.inr (.inr ⟨"if", wR (by decide +kernel), _, hr, by omega⟩))
    rcases List.mem_cons.mp hr with hr | hr
    · exact .inr (.inr (.inr ⟨"go", wR (by decide +kernel), _, hr, by omega⟩))
    rcases List.mem_append.mp hr with hr | hr
    · exact (g1 r hr).mono (by omega)
    · exact .inr (.inr (.inr ⟨"go", wR (by decide +kernel), _, List.mem_singleton.mp hr, by omega⟩))
  | @tr n x ss ts p l1 _ l2 _ i1 i2 =>
    intro st r hr
    have hr : r ∈ tryR (sayR w n) st ss x ts := hr
    show RwG (st + (tryR (sayR w n) st ss x ts).length) r
    have g1 := says_g (st := st + 1) i1
    have g2 := says_g (st := st + 1 + (saysR (sayR w n) (st + 1) ss).length + 2 + 1) i2
    have le : (tryR (sayR w n) st ss x ts).length = 1 + (saysR (sayR w n) (st + 1) ss).length + 3 + (saysR (sayR w n) (st + 1 + (saysR (sayR w n) (st + 1) ss).length + 2 + 1) ts).length := by
      unfold tryR
      simp only [List.length_append, List.length_cons]
      omega
    rw [le]
    unfold tryR at hr
    rcases List.mem_cons.mp hr with hr | hr
    · exact .inr (.inr (.inr ⟨"try", wR (by decide +kernel), _, hr, by omega⟩))
    rcases List.mem_append.mp hr with hr | hr
    · exact (g1 r hr).mono (by omega)
    rcases List.mem_cons.mp hr with hr | hr
    · exact .inl ⟨"done", wR (by decide +kernel), hr⟩
    rcases List.mem_cons.mp hr with hr | hr
    · exact .inr (.inr (.inr ⟨"go", wR (by decide +kernel), _, hr, by omega⟩))
    rcases List.mem_cons.mp hr with hr | hr
    · exact .inr (.inl ⟨"set", wR (by decide +kernel), x, hr, nxyz_ok p⟩)
    · exact (g2 r hr).mono (by omega)
theorem rows_g {hs : Hds} {t : TV} (C : HdC hs) (h : TVok hs t) : ∀ r ∈ t.rows, RwG 1000000 r := fun r hr => by
  have h1 : (saysR (sayR t.w t.n) 0 t.ss).length ≤ 6 * sayM t.w t.n := says_len6 h.ss.1 fun s hs' => sayR_len C (h.ss.2 s hs')
  have h2 := sayM_le h.w4 h.n4
  unfold TV.rows rowsT at hr
  rcases List.mem_append.mp hr with hr | hr
  · have g := says_g (f := sayR t.w t.n) (st := 0) (fun s hs' => sayR_g C (h.ss.2 s hs')) r hr
    exact g.mono (by omega)
  · rcases List.mem_cons.mp hr with hr | hr
    · exact .inr (.inr (.inl ⟨.int 0, hr, by decide⟩))
    · exact .inl ⟨"back", oneR (by decide +kernel), List.mem_singleton.mp hr⟩
theorem str_shown {x : Str} (h : PyData.strOk x = true) : (reprText x).length ≤ 10 * x.length + 2 := by
  refine StrLaws.reprText_len x fun c hc => ?_
  have h' : x.cps.all (· < 0x110000) = true := h
  obtain ⟨i, hi, e⟩ := List.mem_iff_getElem.mp hc
  have h2 := Array.all_eq_true.mp h' i (by simpa using hi)
  have e' : x.cps[i]'(by simpa using hi) = c := by simpa using e
  rw [e'] at h2
  have : (c : Nat) < 0x110000 := of_decide_eq_true h2
  have h3 : (0x110000 : Nat) < 16 ^ 8 := by decide
  omega
theorem RwG.ok {r : PyData} (h : RwG 1000000 r) : okL 60 1 r = true ∧ r.shown.length ≤ 110 := by
  rcases h with ⟨x, hx, rfl⟩ | ⟨x, hx, y, rfl, h1, h2⟩ | ⟨d, rfl, h1⟩ | ⟨x, hx, n, rfl, h1⟩
  · have q := wordsR_ok hx
    refine ⟨okL_tup (by show 1 ≤ 60; decide) fun d hd => by rw [List.mem_singleton.mp hd]; exact okL_w q.1, ?_⟩
    have := sh_tup1 (c := .str x) (m := 10) (by rw [sh_str']; exact q.2)
    unfold rw1
    omega
  · have q := wordsR_ok hx
    refine ⟨okL_tup (by show 2 ≤ 60; decide) (mem2 (okL_w q.1) (okL_w ⟨h1, h2⟩)), ?_⟩
    have := sh_tup2 (c := .str x) (d := .str y)
    have s2 := str_shown h1
    rw [sh_str', sh_str'] at this
    unfold rw2
    omega
  · have q := wordsR_ok (x := "put") (wR (by decide +kernel))
    have hi : okL 60 0 d = true := by
      unfold worthD at h1
      split at h1
      · rename_i i
        rw [Bool.and_eq_true] at h1
        have a := of_decide_eq_true h1.1
        have b := of_decide_eq_true h1.2
        exact okL_int (Nat.lt_of_le_of_lt (show i.natAbs ≤ 1000000000000 by omega) (by decide))
      · cases h1
    refine ⟨okL_tup (by show 2 ≤ 60; decide) (mem2 (okL_w q.1) hi), ?_⟩
    have := sh_tup2 (c := .str "put") (d := d)
    have s2 := sh_worth h1
    rw [sh_str'] at this
    unfold rw2
    omega
  · have q := wordsR_ok hx
    refine ⟨okL_tup (by show 2 ≤ 60; decide) (mem2 (okL_w q.1) (okL_int (Nat.lt_of_le_of_lt (show ((n : Nat) : Int).natAbs ≤ 1000000 by omega) (by decide)))), ?_⟩
    have hb : ((n : Nat) : Int).natAbs < 10 ^ 13 := Nat.lt_of_le_of_lt (show ((n : Nat) : Int).natAbs ≤ 1000000 by omega) (by decide)
    have s2 : (PyData.int ((n : Nat) : Int)).shown.length ≤ 14 := by
      have := int_text_length_le10 (k := 13) (by decide) hb
      simp only [PyData.shown]
      rw [PySem.ofString_length]
      exact this
    have := sh_tup2 (c := .str x) (d := .int (n : Nat))
    rw [sh_str'] at this
    unfold rowN
    omega
end Wr

set_option Elab.async false
set_option linter.all false
set_option maxRecDepth 100000
set_option maxHeartbeats 4000000
namespace Wr
open PySem PySem.Spec PyProof.Rows L2 Evl
theorem sz1 {x : PyData} (h : 1 ≤ sizeLine) : [x].length ≤ sizeLine := h
theorem sz2 {x y : PyData} (h : 2 ≤ sizeLine) : [x, y].length ≤ sizeLine := h
theorem sz3 {x y z : PyData} (h : 3 ≤ sizeLine) : [x, y, z].length ≤ sizeLine := h
theorem ints_dps {K : PySem.W.Frag} {H : Hp} : ∀ ns : List Int, DdAll K H (ns.map V.int) (ns.map PyData.int)
  | [] => .nil
  | n :: ns => .cons (.int n) (ints_dps ns)
theorem ex_exb {p : Addr} {H H1 H2 : Hp} (hp : H p = none) (x : Ex H H1) (y : ExB p H1 H2) : Ex H H2 := fun c o h => y c o (fun z => by rw [z, hp] at h; cases h) (x c o h)
def spLaw (K : PySem.W.Frag) : Sp := fun vs H Q _ => ∃ (a : Addr) (ns : List Int), vs = [.ref a] ∧ SqL K H a (ns.map V.int) ∧ ns.length ≤ 1000 ∧ ∀ H', Q (.bl true) H'
theorem g_forL {K : PySem.W.Frag} {b : List Addr} {ta : TA} {σ : L2.St} {H : Hp} {ds : List PyData} {g : TG} {tb ts : TS} {D : Ends} (h : EA K b ta σ H ds) (hl : ds.length ≤ sizeLine)
    (k : ∀ pT vs H'', Ex H H'' → H'' pT = some (.lst vs) → DqAll K b H'' vs ds → tFor (fun _ H R => R (Itl K pT) H) g tb { D with nx := ts D } σ H'') : tSeq (tFor (iList K (tLst ta)) g tb) ts D σ H :=
  h H (Ex.refl H) _ fun vs H' x hvs => ⟨by rw [dps_len hvs]; exact hl, fun pT hpT => ⟨pT, rfl, ⟨vs, .inl (.inl upd_same)⟩, k pT vs _ (x.trans (Ex.new hpT)) upd_same (DqAll.up hvs (Ex.new hpT))⟩⟩
def rRepF (K : PySem.W.Frag) : R2 := fun x y H Q => ∃ a n xs, x = .ref a ∧ y = .int (n : Nat) ∧ SqT K H a xs ∧ xs ≠ [] ∧ xs.length ≤ 1000 ∧ 2 ≤ n ∧ n ≤ 1000 ∧ ∀ p o, H p = none → o.dict = none → Q (.ref p) (upd H p (.frz o (.tup (List.replicate n xs).flatten)))
theorem op_repF {X : Cx} : OpR X (binaryOp .Mult) (rRepF X.K) := by
  intro pins s σ H x y v u Q I rx ry ⟨a, n, xs, e1, e2, ha, h0, hz, n2, n3, q⟩
  subst e1 e2
  cases rx
  obtain ⟨t, rfl⟩ := ry
  have hsl : sizeLine = 16777216 := sizeLine_eq
  obtain ⟨its, r, ⟨⟨cls, dd, data, sl⟩, ho, hc, nn, hd⟩, _⟩ := I.tuple ha
  dsimp only at hc hd
  subst hc hd
  have hl := r.length
  have he : its.toArray.isEmpty = false := by
    cases its with
    | nil => exact absurd (r.nil_iff.mp rfl) h0
    | cons _ _ => rfl
  have hb : n * its.length ≤ 1000000 := by
    rw [← hl]
    exact Nat.mul_le_mul n3 hz
  have hi : ((its.toArray.size : Nat) : Int) * ((n : Nat) : Int) ≤ 1000000 := by
    rw [List.size_toArray, Int.mul_comm]
    exact Int.ofNat_le.mpr hb
  have fl : ∀ {α : Type} (l : List α), (List.replicate n l).flatten.length = n * l.length := fun l => PyProof.Rows.lm_len_rep_flat ..
  have k4 : Builtin.Tuple.tupleTooMany (((its.toArray.size : Nat) : Int) * ((n : Nat) : Int)) = false := by
    unfold Builtin.Tuple.tupleTooMany
    rw [hsl]
    exact decide_eq_false (by omega)
  have k0 : (decide (((n : Nat) : Int) < -(2 ^ 63)) || decide (((n : Nat) : Int) ≥ 2 ^ 63)) = false := Bool.or_eq_false_iff.mpr ⟨decide_eq_false (by omega), decide_eq_false (by omega)⟩
  have k1 : (its.toArray.isEmpty || ((n : Nat) : Int) == 1) = false := Bool.or_eq_false_iff.mpr ⟨he, beq_eq_false_iff_ne.mpr (by omega)⟩
  have k2 : (decide (((n : Nat) : Int) ≤ 0) || its.toArray.isEmpty) = false := Bool.or_eq_false_iff.mpr ⟨decide_eq_false (by omega), he⟩
  have kz : (List.foldl (fun x1 x2 => x1 ++ x2) #[] (List.replicate ((n : Nat) : Int).toNat its.toArray)).size ≤ sizeLine := by
    rw [size_rep, List.size_toArray]
    show (List.replicate n its).flatten.length ≤ sizeLine
    rw [fl]
    omega
  have rm := int_rmul_tuple (n : Nat) t a its.toArray nn dd sl
  have tm := tuple_mulW a its.toArray nn dd sl (n : Nat) t k0 k1 k2 (by omega) k4 kz
  have ti := fun s' => typeIs_int s' ((n : Nat) : Int) t
  refine wpAny_binaryOp_repeat_ref (U := "int") (T := "tuple") (by decide) ⟨_, ho, rfl⟩ ti noFill_tuple_mul F.fills_int_mul F.slot_int_rmul repeat_tuple F.slot_int_index.lookup ?_
  refine call_meets F.slot_int_rmul (ti s) F.entry_int_rmul (F.args_int_rmul_2 _ _) rm ⟨ho, rfl, ⟨_, ho, rfl⟩, ?_⟩
  refine call_meets F.slot_tuple_mul ⟨_, ho, rfl⟩ F.entry_tuple_mul (F.args_tuple_mul_2 _ _) tm ⟨ho, ?_⟩
  rw [size_rep]
  exact ⟨.ref s.heap.objs.size, _, I.laid (t' := s.toks) (fun b ob q => Heap.get?_push_of_some _ q) (Nat.le_refl _) (frz_new (by show (List.replicate n xs).flatten.length ≤ sizeLine; rw [fl, hl]; omega) (r.rep n)), rfl, q _ _ (I.hok.fresh (Nat.le_refl _)) rfl⟩
theorem dps_rep {K : PySem.W.Frag} {H : Hp} {vs : List V} {ds : List PyData} (h : DdAll K H vs ds) : ∀ n : Nat, DdAll K H (List.replicate n vs).flatten (List.replicate n ds).flatten
  | 0 => .nil
  | n + 1 => by
    rw [List.replicate_succ, List.replicate_succ, List.flatten_cons, List.flatten_cons]
    exact dps_app h (dps_rep h n)
section
variable {K : PySem.W.Frag} {b : List Addr} {σ : L2.St} {H H' : Hp} {ta tb te : TE} {t : TA} {d : PyData} {ds es : List PyData} {E : XK} {D : Ends}
theorem ed_repF {n : Nat} (kn : Kn b H) (ha : ED K b ta σ H (.tuple ds)) (hb : ED K b tb σ H (.int (n : Nat))) (h0 : ds ≠ []) (hz : ds.length ≤ 1000) (n2 : 2 ≤ n) (n3 : n ≤ 1000) : ED K b (tOp (rRepF K) ta tb) σ H (.tuple (List.replicate n ds).flatten) :=
  ed_op ha hb fun H1 x y Q x1 hx hy q => by
    have ey := dq_int hy
    subst ey
    cases hx with
    | tup g1 gn g2 =>
      refine ⟨_, n, _, rfl, rfl, ex_t hid_le g1, fun e => h0 ?_, by rw [dps_len g2]; exact hz, n2, n3, fun p o hp ho => q _ _ (Ex.new hp) (dq_newT (kn.up x1) hp ho (dps_rep g2 n))⟩
      subst e
      cases g2
      rfl
theorem ed_eqS {x y : Str} (ha : ED K b ta σ H (.str x)) (hb : ED K b tb σ H (.str y)) : ED K b (tOp rEq ta tb) σ H (.bool (decide (x = y))) :=
  ed_op ha hb fun H1 v u Q _ hx hy q => by
    have e1 := dq_str hx
    have e2 := dq_str hy
    subst e1 e2
    have e : decide (V.str x = V.str y) = decide (x = y) := by
      by_cases h : x = y
      · rw [decide_eq_true h, h, decide_eq_true rfl]
      · rw [decide_eq_false h, decide_eq_false fun z => h (by injection z)]
    refine ⟨rfl, ?_⟩
    rw [e]
    exact q _ H1 (Ex.refl H1) (.bl _)
theorem lc_data {J : It} {n : Nat} {G : Hp → Prop} {xs : List V} {H2 : Hp} {k : Nat} {g : Nat → PyData} (W : Walk J n G (YAt xs)) (hn : n = xs.length) (hl : n < sizeLine) (kn : Kn b H2) (hG : ∀ H3, Ex H2 H3 → G H3)
    (he : ∀ (D : Addr) (i : Nat) (x : V) (H3 : Hp), xs[i]? = some x → H2 D = none → Ex H2 H3 → Kn (D :: b) H3 → ED K (D :: b) te ((wipe σ [k]).set k (some x)) H3 (g i))
    {Q : VK} (q : ∀ v H3, Ex H2 H3 → Dq K b H3 v (.list ((List.range n).map g)) → Q v H3) (D : Addr) (hD : H2 D = none) :
    ∃ W : Nat → Nat → Hp → Prop, (∃ m, W 0 m (upd H2 D (.lst []))) ∧ ∀ i m H, W i m H →
      (J.stop i H ∧ Q (.ref D) H) ∨ (J.go i H ∧ ∃ Nx : Hp → Prop, (∀ H', Nx H' → ∃ m', m' < m ∧ W (i + 1) m' H') ∧ ∀ x H', J.yld i H x H' → gName k x (wipe σ [k]) H' fun σ2 H2 => wipe σ2 [k] = wipe σ [k] ∧ tYes σ2 H2 fun b H3 =>
        if b = true then te σ2 H3 fun y H4 => ∃ acc, H4 D = some (.lst acc) ∧ acc.length < sizeLine ∧ Nx (upd H4 D (.lst (acc ++ [y]))) else Nx H3) := by
  refine lc_it W (fun i H3 => Ex H2 H3 ∧ Kn (D :: b) H3 ∧ ∃ us, H3 D = some (.lst us) ∧ DqAll K (D :: b) H3 us ((List.range i).map g)) ⟨Ex.new hD, fun z hz => ?_, [], upd_same, .nil⟩ (fun i H3 _ h => hG H3 h.1) ?_ ?_
  · rcases List.mem_cons.mp hz with rfl | hz
    · rw [upd_same]; intro q; cases q
    · exact kn.up (Ex.new hD) z hz
  · intro i x H3 H3' hi ⟨x3, k3, us, e1, e2⟩ ⟨eH, hx⟩
    subst eH
    refine ⟨wipe_set1, ?_⟩
    refine et_yes (H := H3') _ (Ex.refl _) _ fun H4 x4 => ?_
    rw [if_pos rfl]
    refine he D i x H4 hx hD (x3.trans x4) (k3.up x4) H4 (Ex.refl H4) _ fun y H5 x5 hy => ?_
    have lus := dps_len e2
    rw [List.length_map, List.length_range] at lus
    refine ⟨us, x5 _ _ (x4 _ _ e1), by omega, Ex.mut (x3.trans (x4.trans x5)) hD, fun z hz => ?_, us ++ [y], upd_same, ?_⟩
    · by_cases e : z = D
      · rw [e, upd_same]; intro q; cases q
      · rw [upd_ne e]; exact (k3.up x4).up x5 z hz
    · rw [List.range_succ, List.map_append]
      exact dps_ex put_ex _ _ (dps_app (DqAll.up e2 (x4.trans x5)) (.cons hy .nil))
  · intro H3 ⟨x3, k3, us, e1, e2⟩
    exact q _ H3 x3 (.lst (.inl (.inl (by rw [hid_ne (kn.new hD)]; exact e1))) (dps_ex show_ex _ _ e2))
theorem ed_lcRT {k N : Nat} {g : Nat → PyData} (kn : Kn b H) (ha : ED K b ta σ H (.int (N : Nat))) (hN : N ≤ 1000)
    (he : ∀ (D : Addr) (i : Nat) (H0 H3 : Hp), i < N → Ex H H0 → H0 D = none → Ex H0 H3 → Kn (D :: b) H3 → ED K (D :: b) te ((wipe σ [k]).set k (some (.int (i : Nat)))) H3 (g i)) :
    ED K b (tLc (iRng1 (tCons ta tNil)) (gName k) tYes te [k]) σ H (.list ((List.range N).map g)) := fun H1 x1 Q q =>
  ha H1 x1 _ fun x H2 x2 hx => by
    have e := dq_int hx
    subst e
    have hsl : sizeLine = 16777216 := sizeLine_eq
    have wk : Walk (Itr 0 N) N (fun _ => True) (YAt ((List.range N).map fun i => V.int ((i : Nat) : Int))) := walk_range.mono (fun _ _ => trivial) fun i H x H' hi _ ⟨e, h⟩ => ⟨e, by
      rw [List.getElem?_map, List.getElem?_range hi, h]
      show some (V.int ((i : Nat) : Int)) = some (V.int (0 + (i : Int)))
      rw [Int.zero_add]⟩
    refine ⟨(N : Nat), rfl, by omega, by omega, lc_data (K := K) (g := g) wk (by rw [List.length_map, List.length_range]) (by omega) (kn.up (x1.trans x2)) (fun _ _ => trivial) (fun D i x H3 hx hD x3 k3 => ?_) fun v H3 x3 hv => q v H3 (x2.trans x3) hv⟩
    have hi : i < N := by
      have := (List.getElem?_eq_some_iff.mp hx).1
      rw [List.length_map, List.length_range] at this
      exact this
    rw [List.getElem?_map, List.getElem?_range hi] at hx
    have ex := (Option.some.inj hx).symm
    subst ex
    exact he D i H2 H3 hi (x1.trans x2) hD x3 k3
theorem ed_repr (ha : ED K b ta σ H d) (ho : okD 30 d = true) (hz : d.shown.length ≤ 16700000) : ED K b (tCB (rRepr K) (tCons ta tNil)) σ H (.str d.shown) := fun H1 x1 Q q =>
  ha H1 x1 _ fun v H2 x2 hv => ⟨v, d, rfl, Dq.dp hv, ho, hz, q _ H2 x2 (.str _)⟩
theorem str_eqV {H : Hp} : ∀ {vs us : List V} {xs : List Str}, DqAll K b H vs (xs.map .str) → DqAll K b H us (xs.map .str) → Paired (EqV K H 1) vs us
  | _, _, [], .nil, .nil => .nil
  | _, _, x :: xs, .cons h1 t1, .cons h2 t2 => by
    have e1 := dq_str h1
    have e2 := dq_str h2
    subst e1 e2
    exact .cons (.inl ⟨rfl, rfl⟩) (str_eqV t1 t2)
/-- two lists of the same texts -/
theorem ed_eqV {xs : List Str} (ha : ED K b ta σ H (.list (xs.map .str))) (hb : ED K b tb σ H (.list (xs.map .str))) : ED K b (tOp (rEqV K) ta tb) σ H (.bool true) :=
  ed_op ha hb fun H1 v u Q _ hx hy q => by
    cases hx with
    | lst g1 g2 =>
      cases hy with
      | lst f1 f2 => exact ⟨1, by decide, .inl ⟨_, _, _, _, rfl, rfl, ex_l hid_le g1, ex_l hid_le f1, str_eqV g2 f2⟩, q _ H1 (Ex.refl H1) (.bl _)⟩
theorem ed_due {ts : List TV} {hs : Hds} (kn : Kn b H) (he : ED K b te σ H (.tuple (ts.map TV.d))) (T : TrV hs ts) : ED K b (tCall (spDue K) [] E (tCons te tNil)) σ H (dueD ts) := fun H1 x1 Q q =>
  he H1 x1 _ fun v H2 x2 hv => ⟨b, v, hs, ts, rfl, kn.up (x1.trans x2), hv, T, fun u H3 x3 hu => q u H3 (x2.trans x3) hu⟩
end
/-! ### trees and what is due, as data -/
theorem argN_ok {k : Nat} : okL 6 1 (.tuple (argN k)) = true := by
  have h2 : (argN k).length ≤ 6 := by
    unfold argN
    rw [List.length_map, List.length_take]
    show min k 3 ≤ 6
    omega
  refine okL_tup h2 fun d hd => ?_
  obtain ⟨x, hx, rfl⟩ := List.mem_map.mp hd
  have hx' : x ∈ argW := List.mem_of_mem_take hx
  exact okL_w (word_ok hx' (by decide +kernel))
theorem tree_ok {hs : Hds} {ts : List TV} (T : TrV hs ts) : okD 30 (.tuple (ts.map TV.d)) = true := by
  refine ok_up (okL_ok (L := 6) (by decide) 19 _ (okL_tup (by rw [List.length_map]; exact T.l6) fun d hd => ?_)) (by decide)
  obtain ⟨t, ht, rfl⟩ := List.mem_map.mp hd
  have ok := T.ok t ht
  refine okL_tup (n := 17) (by show 3 ≤ 6; decide) (mem3 (okL_w ⟨(tn_ok ok.nm).2, name_len (tn_ok ok.nm).1⟩) (okL_up (Nat.le_refl _) 1 17 _ (by decide) argN_ok) (okL_tup (n := 16) ok.ss.1 fun s hs' => okL_up (Nat.le_refl _) _ 16 _ ?_ ((ok.ss.2 s hs').ok T.C)))
  have := ok.w4
  have := ok.n4
  omega
theorem due_ok {hs : Hds} {ts : List TV} (T : TrV hs ts) : okD 30 (dueD ts) = true ∧ (dueD ts).shown.length ≤ 16700000 := by
  unfold dueD
  cases hl : longV ts with
  | some t =>
    have ht := List.mem_of_find?_eq_some hl
    have le := rows_le T.C (T.ok t ht)
    show okD 30 (.int (t.rows.length : Nat)) = true ∧ (PyData.int (t.rows.length : Nat)).shown.length ≤ 16700000
    have hb : ((t.rows.length : Nat) : Int).natAbs < 10 ^ 13 := Nat.lt_of_le_of_lt (show ((t.rows.length : Nat) : Int).natAbs ≤ 1000000 by omega) (by decide)
    refine ⟨ok_up (okL_ok (L := 6) (by decide) 0 _ (okL_int (Nat.lt_of_lt_of_le hb (by decide)))) (by decide), ?_⟩
    have := int_text_length_le10 (k := 13) (by decide) hb
    simp only [PyData.shown]
    rw [PySem.ofString_length]
    omega
  | none =>
    show okD 30 (.tuple (ts.map TV.p)) = true ∧ (PyData.tuple (ts.map TV.p)).shown.length ≤ 16700000
    have h60 : ∀ t ∈ ts, t.rows.length ≤ 60 := fun t ht => by
      have := List.find?_eq_none.mp hl t ht
      simp only [decide_eq_true_eq] at this
      omega
    constructor
    · refine ok_up (okL_ok (L := 60) (by decide) 4 _ (okL_tup (by rw [List.length_map]; have := T.l6; omega) fun d hd => ?_)) (by decide)
      obtain ⟨t, ht, rfl⟩ := List.mem_map.mp hd
      have ok := T.ok t ht
      exact okL_tup (n := 2) (by show 3 ≤ 60; decide) (mem3 (okL_w ⟨(tn_ok ok.nm).2, name_len (tn_ok ok.nm).1⟩) (okL_up (by decide) 1 2 _ (by decide) argN_ok) (okL_tup (n := 1) (h60 t ht) fun r hr => (rows_g T.C ok r hr).ok.1))
    · have h : ∀ d ∈ ts.map TV.p, d.shown.length ≤ 8000 := fun d hd => by
        obtain ⟨t, ht, rfl⟩ := List.mem_map.mp hd
        have ok := T.ok t ht
        have h1 := shW (mem_allW (.inr (.inr (.inr ok.nm))))
        have h2 := argN_sh (k := t.k)
        have h3 := sh_tupN fun r hr => (rows_g T.C ok r hr).ok.2
        have h4 : t.rows.length * (110 + 2) ≤ 60 * (110 + 2) := Nat.mul_le_mul_right _ (h60 t ht)
        have := sh_tup3 (c := .str t.x) (d := .tuple (argN t.k)) (e := .tuple t.rows)
        rw [sh_str'] at this
        unfold TV.p
        omega
      have h1 := sh_tupN h
      rw [List.length_map] at h1
      have h2 : ts.length * (8000 + 2) ≤ 6 * (8000 + 2) := Nat.mul_le_mul_right _ T.l6
      omega
/-! ### right -/
abbrev s_ri : Stmt := topS 41
abbrev NRi : List Str := ["_law_tree_here", "_law_due_here", "_law_kept", "_law_turn"]
theorem sc_ri : FnScope NRi ["_law_tree_here"] (defScope s_ri) := ⟨rfl, rfl, rfl, by decide +kernel, rfl, by decide +kernel, by decide +kernel⟩
structure TrH (hs : Hds) (ts : List TV) : Prop where
  T : TrV hs ts
  hn : ∀ p ∈ hs, p.1 ∈ treeNames
def spRi (K : PySem.W.Frag) : Sp := fun vs H Q _ => ∃ (b : List Addr) (v : V) (hs : Hds) (ts : List TV), vs = [v] ∧ Kn b H ∧ Dq K b H v (.tuple (ts.map TV.d)) ∧ TrH hs ts ∧ ∀ H', Ex H H' → Q (.bl true) H'
section
variable {P : Program} {w : World} {K : PySem.W.Frag} {mg : Str → Option Value} {base : Heap} {f g g2 : Addr} {fd gd gd2 : FuncData}
theorem ok_ri (D : Def K mg "_law_right" s_ri ["_law_tree_here"] f fd) (Dd : Def K mg "_law_due" s_due ["_law_tree_here"] g gd) (Gd : FnOk P w K mg base CX0 17 g gd ["_law_tree_here"] (spDue K)) (Dt : Def K mg "_law_told" s_to ["_law_tree_here"] g2 gd2) (Gt : FnOk P w K mg base CX0 23 g2 gd2 ["_law_tree_here"] (spDue K)) (B : Blt mg) (B2 : Blt2 mg) :
    FnG P w K mg base 24 f fd ["_law_tree_here"] (spRi K) := by
  refine D.okG sc_ri (fun vs H Q E ⟨_, _, _, _, e, _⟩ => by rw [e]; rfl) (fun cdv A outer s H vs Q E hg hr h => ?_)
  obtain ⟨b, v, hs, ts, rfl, kn, h1, T, q⟩ := h
  refine ⟨_, pss_cons (ps_set (i := 1) sc_ri.nd rfl (Or.inl rfl) (pe_callB (call_reprD hg (hu64 hr)) rfl B2.repr bb_repr (pa_cons (pe_cd Dd Gd (hr.mono (by decide)) (pa_cons (pv 0) pa_nil)) pa_nil)))
    (pss_cons (ps_set (i := 2) sc_ri.nd rfl (Or.inl rfl) (pe_callB (call_reprD hg (hu64 hr)) rfl B2.repr bb_repr (pa_cons (pv 0) pa_nil)))
    (pss_one (ps_ret (pe_and (pe_cmpR (op_eqV (hu64 hr)) (pe_lc (own := [("_law_turn", 3)]) (g := gName 3) (tt := tYes) rfl sc_ri.nd (pi_range1 rfl B.range (pa_cons pe_int pa_nil)) (blkOk_by (N := NRi) (sc := defScope s_ri) (by decide +kernel)) (fun _ _ _ _ _ => (pg_name (i := 3) sc_ri.nd rfl (Or.inl rfl))) (fun _ _ _ _ _ => pts_nil)
        (fun _ _ _ _ _ => (pe_callB (r := rRepr K) (call_reprD hg (hu64 hr)) rfl B2.repr bb_repr (pa_cons (pe_cd Dt Gt hr (pa_cons (pv 0) pa_nil)) pa_nil)))) (pe_lst (pa_cons (pv 1) (pa_cons (pv 1) pa_nil))) (nomark _))
      (pe_one (pe_cmpR op_eq (pe_callB (call_reprD hg (hu64 hr)) rfl B2.repr bb_repr (pa_cons (pv 0) pa_nil)) (pv 2) (nomark _))))))), ?_⟩
  obtain ⟨do1, do2⟩ := due_ok T.T
  have to1 := tree_ok T.T
  have to2 := tree_sh T.T T.hn
  refine g_set (ed_repr (K := K) (b := b) (ed_due (E := E0) kn (ed_var (σ := start NRi [v]) (i := 0) rfl h1) T.T) do1 do2) fun v1 H1 x1 hv1 => ?_
  have kn1 := kn.up x1
  refine g_set (ed_repr (K := K) (b := b) (ed_var (i := 0) rfl (Dq.up h1 x1)) to1 to2) fun v2 H2 x2 hv2 => ?_
  have kn2 := kn1.up x2
  have h12 := Dq.up (Dq.up h1 x1) x2
  have e1 := dq_str hv1
  have e2 := dq_str hv2
  subst e1 e2
  show tRet _ _ [some v, some (.str (dueD ts).shown), some (.str (PyData.tuple (ts.map TV.d)).shown), none] H2
  have lc := ed_lcRT (K := K) (b := b) (k := 3) (N := 2) (σ := [some v, some (.str (dueD ts).shown), some (.str (PyData.tuple (ts.map TV.d)).shown), none]) (H := H2) (ta := tC (.int 2)) (te := tCB (rRepr K) (tCons (tCall (spDue K) [] E0 (tCons (tVar 0) tNil)) tNil)) (g := fun _ => .str (dueD ts).shown) kn2 (ed_int (i := 2)) (by decide) fun Dl i H0 H4 hi y0 hD' y1 k4 =>
    ed_repr (ed_due (E := E0) k4 (ed_var (i := 0) rfl (dp_ex (hid_ex y1) _ _ (Dq.hide (Dq.up h12 y0) hD'))) T.T) do1 do2
  have lc : ED K b _ _ H2 (.list ([(dueD ts).shown, (dueD ts).shown].map PyData.str)) := lc
  have ll : ED K b (tLst (tCons (tVar 1) (tCons (tVar 1) tNil))) [some v, some (.str (dueD ts).shown), some (.str (PyData.tuple (ts.map TV.d)).shown), none] H2 (.list ([(dueD ts).shown, (dueD ts).shown].map PyData.str)) := ed_lst kn2 (ea_cons (ed_var (i := 1) rfl (.str _)) (ea_cons (ed_var (i := 1) rfl (.str _)) ea_nil)) (sz2 (by decide))
  have es := ed_eqS (K := K) (b := b) (ed_repr (ed_var (σ := [some v, some (.str (dueD ts).shown), some (.str (PyData.tuple (ts.map TV.d)).shown), none]) (i := 0) rfl h12) to1 to2) (ed_var (i := 2) rfl (.str _))
  refine (ed_andB (ed_eqV lc ll) fun _ => es) H2 (Ex.refl H2) _ fun vz H3 x3 hz => ?_
  rw [decide_eq_true rfl] at hz
  rw [dq_bl hz]
  exact q H3 ((x1.trans x2).trans x3)
end
end Wr

set_option Elab.async false
set_option linter.all false
set_option maxRecDepth 100000
set_option maxHeartbeats 4000000
namespace Wr
open PySem PySem.Spec PyProof.Rows L2 Evl
/-! ### balanced -/
abbrev s_ba : Stmt := topS 42
abbrev NBa : List Str := ["_law_leaves"]
theorem sc_ba : FnScope NBa ["_law_leaves"] (defScope s_ba) := ⟨rfl, rfl, rfl, by decide +kernel, rfl, by decide +kernel, by decide +kernel⟩
def balD : Nat → Nat → PyData
  | 0, _ => .tuple [.str "name", .str "n"]
  | k + 1, m => if m = 1 then .tuple [.str "name", .str "n"] else .tuple [.str "less", balD k (m / 2), balD k (m - m / 2)]
theorem bal_v {hs : Hds} : ∀ (k m : Nat), ValP hs (k + 1) (balD k m)
  | 0, _ => .name (by decide +kernel)
  | k + 1, m => by
    unfold balD
    by_cases h : m = 1
    · rw [if_pos h]
      exact .name (by decide +kernel)
    · rw [if_neg h]
      exact .op (by decide +kernel) (bal_v k _) (bal_v k _)
def BaPre (k : Nat) (ds : List PyData) : Prop := ∃ m : Nat, ds = [.int (m : Nat)] ∧ 1 ≤ m ∧ m ≤ 2 ^ k
def baF (k : Nat) (ds : List PyData) : PyData := match ds with
  | [.int i] => balD k i.toNat
  | _ => .none
section
variable {P : Program} {w : World} {K : PySem.W.Frag} {mg : Str → Option Value} {base : Heap} {f : Addr} {fd : FuncData}
theorem bal_step (D : Def K mg "_law_balanced" s_ba ["_law_leaves"] f fd) {k k0 : Nat} {spR : Sp} (G : FnOk P w K mg base CX0 k0 f fd ["_law_leaves"] spR) (hR : k = 0 ∨ ∃ m, k = m + 1 ∧ spR = spP K (BaPre m) (baF m)) (hk : k ≤ 8) : FnOk P w K mg base CX0 (k0 + 1) f fd ["_law_leaves"] (spP K (BaPre k) (baF k)) := by
  refine D.F.ok sc_ba (fun vs H Q E h => spP_len (fun _ ⟨_, e, _⟩ => by rw [e]; rfl) h) (fun cdv A outer s H vs Q E hr h => ?_)
  obtain ⟨b, ds, kn, hd, ⟨m, rfl, m1, m2⟩, q⟩ := h
  obtain ⟨v, d', rfl, ed, h1⟩ := one_of hd rfl
  cases ed
  have ev := dq_int h1
  subst ev
  refine ⟨_, pss_cons (ps_if (pt_cmpR op_eq (pv 0) pe_int (nomark _)) (pss_one (ps_ret (pe_tupF (pa_cons pe_str (pa_cons pe_str pa_nil))))) pss_nil)
    (pss_one (ps_ret (pe_tupF (pa_cons pe_str (pa_cons (pe_cd D G hr (pa_cons (pe_op op_fdiv (pv 0) pe_int) pa_nil)) (pa_cons (pe_cd D G hr (pa_cons (pe_op op_sub (pv 0) (pe_op op_fdiv (pv 0) pe_int)) pa_nil)) pa_nil)))))), ?_⟩
  have hsl : sizeLine = 16777216 := sizeLine_eq
  have q : ∀ u H', Ex H H' → Dq K b H' u (balD k m) → Q u H' := fun u H' x hu => q u H' x hu
  have tt : EvT (tTest (tOp rEq (tVar 0) (tC (.int 1)))) [some (.int (m : Nat))] H (decide (m = 1)) := et_t (K := K) (b := b) (ed_op (ed_var (i := 0) (d := .int (m : Nat)) rfl (.int _)) (ed_int (i := 1)) fun H1 u v Q _ hu hv q => by
    have e1 := dq_int hu
    have e2 := dq_int hv
    subst e1 e2
    have e : decide (V.int ((m : Nat) : Int) = V.int 1) = decide (m = 1) := by
      by_cases h : m = 1
      · rw [h]
        rfl
      · rw [decide_eq_false h, decide_eq_false fun z => h (by injection z with z; omega)]
    refine ⟨rfl, ?_⟩
    rw [e]
    exact q _ H1 (Ex.refl H1) (.bl _))
  refine tt H (Ex.refl H) _ fun H1 x1 => ?_
  have kn1 := kn.up x1
  by_cases hm : m = 1
  · rw [decide_eq_true hm, if_pos rfl]
    refine (ed_tup (K := K) (b := b) (ds := [.str "name", .str "n"]) kn1 (ea_cons ed_str (ea_cons ed_str ea_nil)) (sz2 (by decide))) H1 (Ex.refl H1) _ fun u H2 x2 hu => q u H2 (x1.trans x2) ?_
    cases k with
    | zero => exact hu
    | succ k =>
      unfold balD
      rw [if_pos hm]
      exact hu
  · rw [decide_eq_false hm, if_neg Bool.false_ne_true]
    refine gnext ?_
    obtain ⟨j, rfl, rfl⟩ : ∃ j, k = j + 1 ∧ spR = spP K (BaPre j) (baF j) := hR.resolve_left fun z => by
      subst z
      have : m ≤ 1 := m2
      omega
    have p2 : 2 ^ (j + 1) = 2 * 2 ^ j := by rw [Nat.pow_succ, Nat.mul_comm]
    have dv : ∀ {H'}, ED K b (tOp (rI CDiv fun i j => .int (i / j)) (tVar 0) (tC (.int 2))) [some (.int (m : Nat))] H' (.int ((m / 2 : Nat) : Int)) := fun {H'} => (ed_fdiv (ed_var (i := 0) (d := .int (m : Nat)) rfl (.int _)) (ed_int (i := 2)) ⟨by decide, by decide⟩).to (congrArg PyData.int (by omega))
    have db : ∀ {H'}, ED K b (tOp (rI0 fun i j => .int (i - j)) (tVar 0) (tOp (rI CDiv fun i j => .int (i / j)) (tVar 0) (tC (.int 2)))) [some (.int (m : Nat))] H' (.int ((m - m / 2 : Nat) : Int)) := fun {H'} => (ed_sub (ed_var (i := 0) (d := .int (m : Nat)) rfl (.int _)) dv).to (congrArg PyData.int (by omega))
    have c1 : ED K b _ [some (.int (m : Nat))] H1 (balD j (m / 2)) := ed_call (K := K) (b := b) (E := E0) (pre := BaPre j) (f := baF j) kn1 (ea_cons dv ea_nil) ⟨m / 2, rfl, by omega, by omega⟩
    have c2 : ED K b _ [some (.int (m : Nat))] H1 (balD j (m - m / 2)) := ed_call (K := K) (b := b) (E := E0) (pre := BaPre j) (f := baF j) kn1 (ea_cons db ea_nil) ⟨m - m / 2, rfl, by omega, by omega⟩
    refine (ed_tup (K := K) (b := b) kn1 (ea_cons (ed_str (x := "less")) (ea_cons c1 (ea_cons c2 ea_nil))) (sz3 (by decide))) H1 (Ex.refl H1) _ fun u H2 x2 hu => q u H2 (x1.trans x2) ?_
    unfold balD
    rw [if_neg hm]
    exact hu
theorem ok_ba (D : Def K mg "_law_balanced" s_ba ["_law_leaves"] f fd) : ∀ k : Nat, k ≤ 8 → FnOk P w K mg base CX0 (k + 1) f fd ["_law_leaves"] (spP K (BaPre k) (baF k))
  | 0, h => bal_step D (k0 := 0) (spR := fun _ _ _ _ => False) ⟨fun _ _ _ _ z => z.elim, fun _ _ _ _ _ _ _ _ _ _ _ _ _ z => z.elim⟩ (.inl rfl) h
  | k + 1, h => bal_step D (ok_ba D k (by omega)) (.inr ⟨k, rfl, rfl⟩) h
end
theorem hid_nil (H : Hp) : hid [] H = H := by
  funext a
  exact hid_ne (by intro z; cases z)
theorem tail_for {wi : TI} {g : TG} {tb : TS} {D : Ends} {σ : L2.St} {H : Hp} (h : tSeq (tFor wi g tb) tNext D σ H) : tFor wi g tb D σ H := h
section
variable {K : PySem.W.Frag} {b : List Addr} {σ : L2.St} {H H' : Hp} {ta tb te : TE} {t : TA} {ts : TS} {d : PyData} {ds es : List PyData} {E : XK} {D : Ends}
theorem g_cat {i : Nat} {p : Addr} {vs : List V} (kn : Kn b H) (hs : σ[i]? = some (some (.ref p))) (hp : H p = some (.lst vs)) (hv : DqAll K b H vs ds) (he : EA K b t σ H es) (hl : ds.length + es.length ≤ sizeLine) (k : ∀ p' us H', H p' = none → Ex H H' → H' p' = some (.lst us) → DqAll K b H' us (ds ++ es) → ts D (σ.set i (some (.ref p'))) H') : tSeq (tAsg (tOp rCat (tVar i) (tLst t)) (gName i)) ts D σ H :=
  ⟨.ref p, hs, he H (Ex.refl H) _ fun ws H1 x1 hw => ⟨by rw [dps_len hw]; omega, fun p1 hp1 => ⟨p, p1, vs, ws, rfl, rfl, Ex.new hp1 _ _ (x1 _ _ hp), upd_same, by rw [dps_len hv, dps_len hw]; exact hl, fun p2 hp2 => by
    have x2 := (Ex.new (o := HO.lst ws) hp1).trans (Ex.new (o := HO.lst (vs ++ ws)) hp2)
    refine k p2 (vs ++ ws) _ ?_ (x1.trans x2) upd_same (DqAll.up (dps_app (DqAll.up hv x1) hw) x2)
    cases q : H p2 with
    | none => rfl
    | some o => rw [Ex.new hp1 _ _ (x1 _ _ q)] at hp2; cases hp2⟩⟩⟩
theorem ed_ri {vs : List TV} {hs : Hds} (kn : Kn b H) (he : ED K b te σ H (.tuple (vs.map TV.d))) (T : TrH hs vs) : ED K b (tCall (spRi K) [] E (tCons te tNil)) σ H (.bool true) := fun H1 x1 Q q =>
  he H1 x1 _ fun v H2 x2 hv => ⟨b, v, hs, vs, rfl, kn.up (x1.trans x2), hv, T, fun H3 x3 => q _ H3 (x2.trans x3) (.bl _)⟩
end
theorem tree_viewH {d : PyData} (h : TreeP d) : ∃ hs ts, d = .tuple (ts.map TV.d) ∧ TrH hs ts := by
  obtain ⟨hs, C, hn, ds, rfl, hl, hR⟩ := h
  obtain ⟨ts, e, el, ht⟩ := tv_list C hn (fun p h => h) hl hR
  have l6 := C.l6
  exact ⟨hs, ts, by rw [e], ⟨C, by omega, ht⟩, hn⟩
/-! ### the trees by hand -/
def hs0 : Hds := [("main", 0)]
theorem hs0_C : HdC hs0 := ⟨by decide, by decide, fun p hp => by rw [List.mem_singleton.mp hp]; decide, by decide +kernel, fun p hp => by
  rw [List.mem_singleton.mp hp]
  decide +kernel⟩
theorem hs0_n : ∀ p ∈ hs0, p.1 ∈ treeNames := fun p hp => by
  rw [List.mem_singleton.mp hp]
  decide +kernel
def sayB : PyData := .tuple [.str "say", balD 3 8]
def longL : List PyData := [sayB, sayB, sayB]
def last1 : List PyData := [.tuple [.str "say", balD 3 5], .tuple [.str "if", balD 3 5, .tuple [], .tuple []], .tuple [.str "while", balD 3 4, .tuple []]]
def last2 : List PyData := [.tuple [.str "while", balD 3 5, .tuple []], .tuple [.str "try", .tuple longL, .str "n", .tuple [sayB]], .tuple [.str "if", .int 1, .tuple longL, .tuple []]]
theorem sayB_p {n : Nat} : SayP hs0 4 (n + 1) sayB := .one (by decide +kernel) (bal_v 3 8)
theorem longL_p {n : Nat} : ∀ s ∈ longL, SayP hs0 4 (n + 1) s := fun s hs => by
  unfold longL at hs
  simp only [List.mem_cons, List.not_mem_nil, or_false, or_self] at hs
  rw [hs]
  exact sayB_p
theorem no_p {n : Nat} : ∀ s ∈ ([] : List PyData), SayP hs0 4 n s := fun s hs => absurd hs List.not_mem_nil
theorem last_p : ∀ s ∈ last1 ++ last2, SayP hs0 4 2 s := fun s hs => by
  simp only [last1, last2, List.cons_append, List.nil_append, List.mem_cons, List.not_mem_nil, or_false] at hs
  rcases hs with rfl | rfl | rfl | rfl | rfl | rfl
  · exact .one (by decide +kernel) (bal_v 3 5)
  · exact .ite (bal_v 3 5) (by decide) no_p (by decide) no_p
  · exact .whl (bal_v 3 4) (by decide) no_p
  · exact .whl (bal_v 3 5) (by decide) no_p
  · exact .tr (by decide +kernel) (by decide) longL_p (by decide) fun s hs => by rw [List.mem_singleton.mp hs]; exact sayB_p
  · exact .ite (.num (by decide)) (by decide) longL_p (by decide) no_p
def tvM (s : PyData) : TV := ⟨"main", 1, longL ++ [s], 4, 2⟩
def tvB (ss : List PyData) : TV := ⟨"b", 0, ss, 4, 2⟩
theorem tvM_ok {s : PyData} (h : SayP hs0 4 2 s) : TVok hs0 (tvM s) := ⟨by show (4, 2) ∈ wnT; decide, by show 4 ≤ 4; decide, by show 2 ≤ 4; decide, by show 1 ≤ 3; decide, by show ("main" : Str) ∈ treeNames; decide +kernel, by show 4 ≤ 6; decide, fun s' hs => by
  have hs : s' ∈ longL ++ [s] := hs
  rcases List.mem_append.mp hs with hs | hs
  · exact longL_p s' hs
  · rw [List.mem_singleton.mp hs]
    exact h⟩
theorem tvB_ok {ss : List PyData} (hl : ss.length ≤ 6) (h : ∀ s ∈ ss, SayP hs0 4 2 s) : TVok hs0 (tvB ss) := ⟨by show (4, 2) ∈ wnT; decide, by show 4 ≤ 4; decide, by show 2 ≤ 4; decide, by show 0 ≤ 3; decide, by show ("b" : Str) ∈ treeNames; decide +kernel, hl, h⟩
def handT (s : PyData) : List (List TV) := [[tvM s], [tvM s, tvB []], [tvM s, tvB (longL ++ longL)], [tvB (longL ++ longL), tvM s], [tvB [sayB], tvM s]]
theorem hand_ok {s : PyData} (h : SayP hs0 4 2 s) : ∀ ts ∈ handT s, TrH hs0 ts := fun ts hts => by
  have m := tvM_ok h
  have b0 := tvB_ok (ss := []) (by decide) no_p
  have b1 := tvB_ok (ss := [sayB]) (by decide) fun s hs => by rw [List.mem_singleton.mp hs]; exact sayB_p
  have b2 := tvB_ok (ss := longL ++ longL) (by decide) fun s hs => (List.mem_append.mp hs).elim (longL_p s) (longL_p s)
  have one : ∀ {t : TV}, TVok hs0 t → TrH hs0 [t] := fun {t} h1 => ⟨⟨hs0_C, by show 1 ≤ 6; decide, fun x hx => by rw [List.mem_singleton.mp hx]; exact h1⟩, hs0_n⟩
  have two : ∀ {t u : TV}, TVok hs0 t → TVok hs0 u → TrH hs0 [t, u] := fun {t u} h1 h2 => ⟨⟨hs0_C, by show 2 ≤ 6; decide, fun x hx => by
    rcases List.mem_cons.mp hx with hx | hx
    · rw [hx]; exact h1
    · rw [List.mem_singleton.mp hx]; exact h2⟩, hs0_n⟩
  unfold handT at hts
  simp only [List.mem_cons, List.not_mem_nil, or_false] at hts
  rcases hts with rfl | rfl | rfl | rfl | rfl
  · exact one m
  · exact two m b0
  · exact two m b2
  · exact two b2 m
  · exact two b1 m
abbrev s_law : Stmt := topS 43
abbrev NLw : List Str := ["_law_script", "_law_at", "_law_tree_here", "_law_short_here", "_law_long", "_law_last", "_law_saying_here", "_law_one", "_law_other"]
theorem sc_law : FnScope NLw ["_law_script"] (defScope s_law) := ⟨rfl, rfl, rfl, by decide +kernel, rfl, by decide +kernel, by decide +kernel⟩
section
variable {P : Program} {w : World} {K : PySem.W.Frag} {mg : Str → Option Value} {base : Heap} {f g1 g2 g3 g4 g5 g6 : Addr} {fd gd1 gd2 gd3 gd4 gd5 gd6 : FuncData}
theorem ok_law (D : Def K mg "law" s_law ["_law_script"] f fd) (B : Blt mg) (B2 : Blt2 mg) (Db : Def K mg "_law_bag" s_bag ["_law_script", "_law_at"] g1 gd1) (Gb : FnOk P w K mg base CX0 1 g1 gd1 ["_law_script", "_law_at"] (spBag K)) (Dtr : Def K mg "_law_tree" s_tree ["_law_bag_here"] g2 gd2) (Gtr : FnOk P w K mg base CX0 17 g2 gd2 ["_law_bag_here"] (spG K 0 (· = []) fun _ d => TreeP d))
    (Dsh : Def K mg "_law_short" s_short ["_law_tree_here"] g3 gd3) (Gsh : FnOk P w K mg base CX0 17 g3 gd3 ["_law_tree_here"] (spSh K)) (Dr : Def K mg "_law_right" s_ri ["_law_tree_here"] g4 gd4) (Gr : FnG P w K mg base 24 g4 gd4 ["_law_tree_here"] (spRi K)) (Dt : Def K mg "_law_told" s_to ["_law_tree_here"] g5 gd5) (Gt : FnOk P w K mg base CX0 23 g5 gd5 ["_law_tree_here"] (spDue K))
    (Dba : Def K mg "_law_balanced" s_ba ["_law_leaves"] g6 gd6) (Gba : FnOk P w K mg base CX0 4 g6 gd6 ["_law_leaves"] (spP K (BaPre 3) (baF 3))) : FnG P w K mg base 25 f fd ["_law_script"] (spLaw K) := by
  refine D.okG sc_law (fun vs H Q E ⟨a, ns, e, _⟩ => by rw [e]; rfl) (fun cdv A outer s H vs Q E hg hr h => ?_)
  obtain ⟨a, ns, rfl, hS, hn, q⟩ := h
  refine ⟨_, pss_cons (ps_for PassesOwn.never rfl (pi_range1 rfl B.range (pa_cons (pe_callB (cr_max2 rfl) rfl B2.max bb_max (pa_cons pe_int (pa_cons (pe_callB (cr_min2 rfl) rfl B2.min bb_min (pa_cons pe_int (pa_cons (pe_callB call_lenD1 rfl B.len bb_len (pa_cons (pv 0) pa_nil)) pa_nil))) pa_nil))) pa_nil)) (pg_name (i := 1) sc_law.nd rfl (Or.inl rfl)) (pss_cons (ps_set (i := 2) sc_law.nd rfl (Or.inl rfl) (pe_cd Dtr Gtr (hr.mono (by decide)) (pa_cons (pe_cd Db Gb (hr.mono (by decide)) (pa_cons (pv 0) (pa_cons (pv 1) pa_nil))) pa_nil)))
    (pss_cons (ps_set (i := 3) sc_law.nd rfl (Or.inl rfl) (pe_cd Dsh Gsh (hr.mono (by decide)) (pa_cons (pv 2) pa_nil)))
    (pss_one (ps_if (PW.pt (pw_or (pt_not (pt_val (pe_cdG Dr Gr hg hr (pa_cons (pv 2) pa_nil)))) (pw_or (pt_not (pt_val (pe_cdG Dr Gr hg hr (pa_cons (pv 3) pa_nil)))) (pw_or1 (pt_not (pt_val (pe_callB call_isi rfl B.isi bb_isinstance (pa_cons (pe_cd Dt Gt (hr.mono (by decide)) (pa_cons (pv 3) pa_nil)) (pa_cons (pe_tyN rfl B.tuple bt_tuple) pa_nil))))))))) (pss_one (ps_ret pe_bl)) pss_nil)))))
    (pss_cons (ps_set (i := 4) sc_law.nd rfl (Or.inl rfl) (pe_op op_repF (pe_tupF (pa_cons (pe_tupF (pa_cons pe_str (pa_cons (pe_cd Dba Gba (hr.mono (by decide)) (pa_cons pe_int pa_nil)) pa_nil))) pa_nil)) pe_int))
    (pss_cons (ps_set (i := 5) sc_law.nd rfl (Or.inl rfl) (pe_lst (pa_cons (pe_tupF (pa_cons pe_str (pa_cons (pe_cd Dba Gba (hr.mono (by decide)) (pa_cons pe_int pa_nil)) pa_nil))) (pa_cons (pe_tupF (pa_cons pe_str (pa_cons (pe_cd Dba Gba (hr.mono (by decide)) (pa_cons pe_int pa_nil)) (pa_cons (pe_tupF pa_nil) (pa_cons (pe_tupF pa_nil) pa_nil))))) (pa_cons (pe_tupF (pa_cons pe_str (pa_cons (pe_cd Dba Gba (hr.mono (by decide)) (pa_cons pe_int pa_nil)) (pa_cons (pe_tupF pa_nil) pa_nil)))) pa_nil)))))
    (pss_cons (ps_set (i := 5) sc_law.nd rfl (Or.inl rfl) (pe_op op_cat (pv 5) (pe_lst (pa_cons (pe_tupF (pa_cons pe_str (pa_cons (pe_cd Dba Gba (hr.mono (by decide)) (pa_cons pe_int pa_nil)) (pa_cons (pe_tupF pa_nil) pa_nil)))) (pa_cons (pe_tupF (pa_cons pe_str (pa_cons (pv 4) (pa_cons pe_str (pa_cons (pe_slice sl_tupF (pv 4) po_none (po_some pe_int)) pa_nil))))) (pa_cons (pe_tupF (pa_cons pe_str (pa_cons pe_int (pa_cons (pv 4) (pa_cons (pe_tupF pa_nil) pa_nil))))) pa_nil))))))
    (pss_cons (ps_for PassesOwn.never rfl (pi_list (pv 5)) (pg_name (i := 6) sc_law.nd rfl (Or.inl rfl)) (pss_cons (ps_set (i := 7) sc_law.nd rfl (Or.inl rfl) (pe_tupF (pa_cons pe_str (pa_cons (pe_tupF (pa_cons pe_str pa_nil)) (pa_cons (pe_op op_catF (pv 4) (pe_tupF (pa_cons (pv 6) pa_nil))) pa_nil)))))
    (pss_cons (ps_set (i := 8) sc_law.nd rfl (Or.inl rfl) (pe_tupF (pa_cons pe_str (pa_cons (pe_tupF pa_nil) (pa_cons (pe_op op_catF (pv 4) (pv 4)) pa_nil)))))
    (pss_one (ps_for PassesOwn.never rfl (pi_list (pe_lst (pa_cons (pe_tupF (pa_cons (pv 7) pa_nil)) (pa_cons (pe_tupF (pa_cons (pv 7) (pa_cons (pe_tupF (pa_cons pe_str (pa_cons (pe_tupF pa_nil) (pa_cons (pe_tupF pa_nil) pa_nil)))) pa_nil))) (pa_cons (pe_tupF (pa_cons (pv 7) (pa_cons (pv 8) pa_nil))) (pa_cons (pe_tupF (pa_cons (pv 8) (pa_cons (pv 7) pa_nil))) (pa_cons (pe_tupF (pa_cons (pe_tupF (pa_cons pe_str (pa_cons (pe_tupF pa_nil) (pa_cons (pe_slice sl_tupF (pv 4) po_none (po_some pe_int)) pa_nil)))) (pa_cons (pv 7) pa_nil))) pa_nil))))))) (pg_name (i := 2) sc_law.nd rfl (Or.inl rfl)) (pss_one (ps_if (pt_not (pt_val (pe_cdG Dr Gr hg hr (pa_cons (pv 2) pa_nil)))) (pss_one (ps_ret pe_bl)) pss_nil)))))))
    (pss_one (ps_ret pe_bl)))))), ?_⟩
  have hsl : sizeLine = 16777216 := sizeLine_eq
  have hD : ∀ {H'}, Ex H H' → Dq K [] H' (.ref a) (.list (ns.map .int)) := fun {H'} x => by
    show Dd K (hid [] H') _ _
    rw [hid_nil]
    exact .lst (ex_l x hS) (ints_dps ns)
  have kn0 : ∀ {H' : Hp}, Kn [] H' := fun z hz => nomatch hz
  have cnt := ed_max2 (K := K) (b := []) (ed_int (i := 2)) (ed_min2 (ed_int (i := 4)) (ed_len (ed_var (σ := start NLw [.ref a]) (i := 0) rfl (hD (Ex.refl H))) (.inr (.inl rfl)) fun y e => by cases e))
  have c0 : ∀ ll : Int, 2 ≤ (if (if ll < 4 then ll else 4) > 2 then (if ll < 4 then ll else 4) else 2) ∧ (if (if ll < 4 then ll else 4) > 2 then (if ll < 4 then ll else 4) else 2) ≤ 4 := fun ll => by
    split <;> split <;> omega
  obtain ⟨cl, ch⟩ := c0 ((lenD (.list (ns.map PyData.int)) : Nat) : Int)
  generalize (if (if ((lenD (.list (ns.map PyData.int)) : Nat) : Int) < 4 then ((lenD (.list (ns.map PyData.int)) : Nat) : Int) else 4) > 2 then (if ((lenD (.list (ns.map PyData.int)) : Nat) : Int) < 4 then ((lenD (.list (ns.map PyData.int)) : Nat) : Int) else 4) else 2) = N at cnt cl ch
  refine g_forR (K := K) (b := []) (fun i σ' H' => ∃ u1 u2 u3 : Option V, σ' = [some (.ref a), u1, u2, u3, none, none, none, none, none] ∧ Ex H H') cnt (by omega) (by omega) (fun H1 x1 => ⟨none, none, none, rfl, x1⟩) ?_ ?_
  · intro i σ' H1 hi ⟨u1, u2, u3, es, x1⟩
    subst es
    show tSeq _ _ _ [some (.ref a), some (.int (0 + (i : Int))), u2, u3, none, none, none, none, none] H1
    rw [Int.zero_add]
    refine ⟨.ref a, rfl, .int (i : Nat), rfl, [], ns, (i : Nat), kn0, ?_, by omega, by omega, hn, fun p H2 hp x2 bg => ?_⟩
    · exact .cons (hD x1) (.cons (.int _) .nil)
    have bg : Bag p 0 H2 := bg
    have pm : p ∈ [p] := List.mem_singleton.mpr rfl
    refine ⟨[p], p, 0, [], [], rfl, pm, bg.kn, bg, .nil, rfl, fun v d H3 x3 bg3 hv tr => ?_⟩
    obtain ⟨hs, ts, rfl, T⟩ := tree_viewH tr
    have x13 : Ex H1 H3 := ex_exb hp x2 x3
    have bg3 : Bag p 0 H3 := bg3
    show tSeq _ _ _ [some (.ref a), some (.int (i : Nat)), some v, u3, none, none, none, none, none] H3
    refine ⟨v, rfl, [p], v, hs, ts, rfl, bg3.kn, hv, T.T, fun v' ts' H4 x4 hv' T' hl h60 => ?_⟩
    have T' : TrH hs ts' := ⟨T', T.hn⟩
    have kn4 := bg3.kn.up x4
    dsimp only [gName, List.set_cons_succ, List.set_cons_zero]
    show tIfS _ _ _ _ [some (.ref a), some (.int (i : Nat)), some v, some v', none, none, none, none, none] H4
    have hv4 := Dq.up hv x4
    have t1 := et_n (et_b (ed_ri (E := E0) (σ := [some (.ref a), some (.int (i : Nat)), some v, some v', none, none, none, none, none]) kn4 (ed_var (i := 2) rfl hv4) T))
    have t2 := et_n (et_b (ed_ri (E := E0) (σ := [some (.ref a), some (.int (i : Nat)), some v, some v', none, none, none, none, none]) kn4 (ed_var (i := 3) rfl hv') T'))
    have eD : dueD ts' = .tuple (ts'.map TV.p) := by
      unfold dueD
      rw [long_no h60]
    have t3 := et_n (et_b (ed_isi (K := K) (b := [p]) (T := "tuple") (.inr (.inr (.inr (.inl rfl)))) ((ed_due (E := E0) kn4 (ed_var (σ := [some (.ref a), some (.int (i : Nat)), some v, some v', none, none, none, none, none]) (i := 3) rfl hv') T'.T).to eD)))
    have t23 := et_or t2 fun _ => t3
    have tt := et_or t1 fun _ => t23
    refine tt H4 (Ex.refl H4) _ fun H5 x5 => ?_
    show (if false = true then _ else _)
    rw [if_neg Bool.false_ne_true]
    exact ⟨_, _, _, rfl, x1.trans (x13.trans (x4.trans x5))⟩
  · intro σ' H1 ⟨u1, u2, u3, es, x1⟩
    subst es
    have bl : ∀ {σ' H'} (m : Nat), 1 ≤ m → m ≤ 8 → ED K [] (tCall (spP K (BaPre 3) (baF 3)) [] E0 (tCons (tC (.int (m : Nat))) tNil)) σ' H' (balD 3 m) := fun {σ' H'} m m1 m2 => ed_call (K := K) (b := []) (E := E0) (pre := BaPre 3) (f := baF 3) kn0 (ea_cons ed_int ea_nil) ⟨m, rfl, m1, m2⟩
    have t0 : ∀ {σ' H'}, ED K [] (tTupF tNil) σ' H' (.tuple []) := fun {σ' H'} => ed_tup kn0 ea_nil (by decide)
    refine g_set (K := K) (b := []) (d := .tuple longL) (ed_repF (n := 3) (ds := [sayB]) kn0 (ed_tup kn0 (ea_cons (ed_tup kn0 (ea_cons (ed_str (x := "say")) (ea_cons (bl 8 (by decide) (by decide)) ea_nil)) (sz2 (by decide))) ea_nil) (sz1 (by decide))) (ed_int (i := 3)) (by intro z; cases z) (by decide) (by decide) (by decide)) fun vl H2 x2 hvl => ?_
    show tSeq _ _ _ [some (.ref a), u1, u2, u3, some vl, none, none, none, none] H2
    refine g_lst (K := K) (b := []) (ds := last1) kn0 (ea_cons (ed_tup kn0 (ea_cons (ed_str (x := "say")) (ea_cons (bl 5 (by decide) (by decide)) ea_nil)) (sz2 (by decide))) (ea_cons (ed_tup kn0 (ea_cons (ed_str (x := "if")) (ea_cons (bl 5 (by decide) (by decide)) (ea_cons t0 (ea_cons t0 ea_nil)))) (by show 4 ≤ sizeLine; omega)) (ea_cons (ed_tup kn0 (ea_cons (ed_str (x := "while")) (ea_cons (bl 4 (by decide) (by decide)) (ea_cons t0 ea_nil))) (sz3 (by decide))) ea_nil))) (by show 3 ≤ sizeLine; omega) fun p1 vs1 H3 hp1 x3 e1 d1 => ?_
    show tSeq _ _ _ [some (.ref a), u1, u2, u3, some vl, some (.ref p1), none, none, none] H3
    have hvl3 := Dq.up hvl x3
    have sl : ∀ {σ' H'}, σ'[4]? = some (some vl) → Ex H3 H' → ED K [] (tSl (rSlF K) (tVar 4) tNoPart (tPart (tC (.int 1)))) σ' H' (.tuple [sayB]) := fun {σ' H'} e x => (ed_slT kn0 (ed_var (i := 4) e (Dq.up hvl3 x)) eo_none (eo_some (K := K) (b := []) (ed_int (i := 1)))).to (congrArg PyData.tuple (show cutD longL none (some 1) = [sayB] from rfl))
    refine g_cat (K := K) (b := []) (i := 5) (ds := last1) (es := last2) kn0 rfl e1 d1 (ea_cons (ed_tup kn0 (ea_cons (ed_str (x := "while")) (ea_cons (bl 5 (by decide) (by decide)) (ea_cons t0 ea_nil))) (sz3 (by decide))) (ea_cons (ed_tup kn0 (ea_cons (ed_str (x := "try")) (ea_cons (ed_var (i := 4) rfl hvl3) (ea_cons (ed_str (x := "n")) (ea_cons (sl rfl (Ex.refl H3)) ea_nil)))) (by show 4 ≤ sizeLine; omega)) (ea_cons (ed_tup kn0 (ea_cons (ed_str (x := "if")) (ea_cons (ed_int (i := 1)) (ea_cons (ed_var (i := 4) rfl hvl3) (ea_cons t0 ea_nil)))) (by show 4 ≤ sizeLine; omega)) ea_nil))) (by show 3 + 3 ≤ sizeLine; omega) fun p2 vs2 H4 hp2 x4 e2 d2 => ?_
    show tSeq _ _ _ [some (.ref a), u1, u2, u3, some vl, some (.ref p2), none, none, none] H4
    refine ⟨.ref p2, rfl, p2, rfl, ⟨vs2, .inl (.inl e2)⟩, ?_⟩
    refine for_it (walk_list (K := K) (xs := vs2)) (fun i σ' H' => ∃ u2 u6 u7 u8 : Option V, σ' = [some (.ref a), u1, u2, u3, some vl, some (.ref p2), u6, u7, u8] ∧ Ex H4 H') ⟨u2, none, none, none, rfl, Ex.refl H4⟩ (fun i σ' H' _ ⟨_, _, _, _, _, x⟩ => .inl (.inl (x _ _ e2))) ?_ ?_
    · intro i xv σ' H5 H5' hi ⟨u2, u6, u7, u8, es, x5⟩ ⟨eH, hx⟩
      subst es eH
      obtain ⟨sd, hsd, hq⟩ := dps_at d2 hx
      have sP := last_p sd (List.mem_of_getElem? hsd)
      have hq : Dq K [] H4 xv sd := hq
      have hq5 := Dq.up hq x5
      have x35 := x4.trans x5
      show tSeq _ _ _ [some (.ref a), u1, u2, u3, some vl, some (.ref p2), some xv, u7, u8] H5'
      refine g_set (K := K) (b := []) (d := (tvM sd).d) (ed_tup kn0 (ea_cons (ed_str (x := "main")) (ea_cons (ed_tup kn0 (ea_cons (ed_str (x := "n")) ea_nil) (sz1 (by decide))) (ea_cons (ed_catT kn0 (ed_var (i := 4) rfl (Dq.up hvl3 x35)) (ed_tup kn0 (ea_cons (ed_var (i := 6) rfl hq5) ea_nil) (sz1 (by decide))) (by show 3 + 1 ≤ sizeLine; omega)) ea_nil))) (sz3 (by decide))) fun v7 H6 x6 h7 => ?_
      show tSeq _ _ _ [some (.ref a), u1, u2, u3, some vl, some (.ref p2), some xv, some v7, u8] H6
      have hvl6 := Dq.up hvl3 (x35.trans x6)
      refine g_set (K := K) (b := []) (d := (tvB (longL ++ longL)).d) (ed_tup kn0 (ea_cons (ed_str (x := "b")) (ea_cons t0 (ea_cons (ed_catT kn0 (ed_var (i := 4) rfl hvl6) (ed_var (i := 4) rfl hvl6) (by show 3 + 3 ≤ sizeLine; omega)) ea_nil))) (sz3 (by decide))) fun v8 H7 x7 h8 => ?_
      show tFor _ _ _ _ [some (.ref a), u1, u2, u3, some vl, some (.ref p2), some xv, some v7, some v8] H7
      have h77 := Dq.up h7 x7
      have e7 : ∀ {d}, d = (tvM sd).d → ED K [] (tVar 7) [some (.ref a), u1, u2, u3, some vl, some (.ref p2), some xv, some v7, some v8] H7 d := fun e => by rw [e]; exact ed_var (i := 7) rfl h77
      have e8 : ED K [] (tVar 8) [some (.ref a), u1, u2, u3, some vl, some (.ref p2), some xv, some v7, some v8] H7 (tvB (longL ++ longL)).d := ed_var (i := 8) rfl h8
      have x37 := (x35.trans x6).trans x7
      refine tail_for (g_forL (K := K) (b := []) (ts := tNext) (ds := (handT sd).map fun ts : List TV => PyData.tuple (ts.map TV.d)) (ea_cons (ed_tup kn0 (ea_cons (e7 rfl) ea_nil) (sz1 (by decide))) (ea_cons (ed_tup kn0 (ea_cons (e7 rfl) (ea_cons (ed_tup kn0 (ea_cons (ed_str (x := "b")) (ea_cons t0 (ea_cons t0 ea_nil))) (sz3 (by decide))) ea_nil)) (sz2 (by decide))) (ea_cons (ed_tup kn0 (ea_cons (e7 rfl) (ea_cons e8 ea_nil)) (sz2 (by decide))) (ea_cons (ed_tup kn0 (ea_cons e8 (ea_cons (e7 rfl) ea_nil)) (sz2 (by decide))) (ea_cons (ed_tup kn0 (ea_cons (ed_tup kn0 (ea_cons (ed_str (x := "b")) (ea_cons t0 (ea_cons (sl rfl x37) ea_nil))) (sz3 (by decide))) (ea_cons (e7 rfl) ea_nil)) (sz2 (by decide))) ea_nil))))) (by show 5 ≤ sizeLine; omega) fun pT vs H8 x8 hT dT => ?_)
      refine for_it (walk_list (K := K) (xs := vs)) (fun i σ' H' => ∃ u2 : Option V, σ' = [some (.ref a), u1, u2, u3, some vl, some (.ref p2), some xv, some v7, some v8] ∧ Ex H8 H') ⟨u2, rfl, Ex.refl H8⟩ (fun i σ' H' _ ⟨_, _, x⟩ => .inl (.inl (x _ _ hT))) ?_ ?_
      · intro j yv σ' H9 H9' hj ⟨u2, es, x9⟩ ⟨eH, hy⟩
        subst es eH
        obtain ⟨td, htd, hyq⟩ := dps_at dT hy
        obtain ⟨ts, hts, rfl⟩ := List.mem_map.mp (List.mem_of_getElem? htd)
        have T := hand_ok sP ts hts
        have hyq : Dq K [] H8 yv (.tuple (ts.map TV.d)) := hyq
        show tIfS _ _ _ _ [some (.ref a), u1, some yv, u3, some vl, some (.ref p2), some xv, some v7, some v8] H9'
        refine (et_n (et_b (ed_ri (E := E0) (K := K) (b := []) kn0 (ed_var (i := 2) rfl (Dq.up hyq x9)) T))) H9' (Ex.refl H9') _ fun H10 x10 => ?_
        show (if (!true) = true then _ else _)
        rw [show (!true) = false from rfl, if_neg Bool.false_ne_true]
        exact ⟨_, rfl, x9.trans x10⟩
      · intro σ' H9 ⟨u2, es, x9⟩
        subst es
        exact ⟨_, _, _, _, rfl, x5.trans (x6.trans (x7.trans (x8.trans x9)))⟩
    · intro σ' H5 ⟨u2, u6, u7, u8, es, x5⟩
      subst es
      exact q H5
end
end Wr

set_option Elab.async false
set_option linter.all false
set_option maxRecDepth 100000
set_option maxHeartbeats 4000000
namespace Wr
open PySem PySem.Spec PyProof.Rows L2 Evl
/-! ### the law called where nothing is being shown -/
abbrev lstO (vs : List Value) : Obj := { cls := .type "list", data := .seq vs.toArray }
section
variable {P : Program} {w : World} {K : PySem.W.Frag} {mg mb : Str → Option Value} {k : Nat} {fa a : Addr} {fd : FuncData} {x : Str} {sp : Sp} {s : Shared} {vs : List Value} {ns : List Int}
/-- what the call leaves -/
def Left (s : Shared) (r : Result) (s' : Shared) : Prop := r = .ok (.ret (.bool true)) ∧ OldK s.heap s'.heap ∧ s'.os = s.os ∧ AllBare s'.gens
theorem law_from {H : Hp} (KX : K.In s.heap) (hm : s.heap.Ns mainGlobals mg) (hb : s.heap.Ns builtinsNs mb) (hbb : ∀ x : Str, x ≠ "__name__" → mb x = bootBuiltins x) (hlim : s.heap.NoLimit) (hge : s.gens = #[]) (ha : s.heap.get? a = some (lstO vs)) (hr : Room k callerA)
    (F : ∀ base : Heap, K.In base → base.Ns mainGlobals mg → FnG P w K mg base k fa fd [x] sp) (hbind : ∀ (s : Shared) (u : Value), BindsTo s fd ⟨[u], []⟩ [(x, u)]) (hsp : sp [.ref a] H (fun v _ => v = .bl true) fun _ _ _ => False) (hok : HOk P w H s.heap)
    (hA : ∀ c, H c = none ∨ (c = a ∧ K.lookup c = none ∧ ∃ xs, H c = some (.frz (lstO vs) (.lst xs)))) : codeAny (model P w) callerA (.call (.ref fa) ⟨[.ref a], []⟩) (Left s) s := by
  have nsOf : ∀ {c : Addr} {m : Str → Option Value}, s.heap.Ns c m → (hidT s.heap H).Ns c m := fun {c m} ⟨o, es, ep, e, d, r⟩ => by
    refine ⟨o, es, ep, hidT_get e ?_, d, r⟩
    rcases hA c with z | ⟨rfl, _⟩
    · exact z
    · rw [ha] at e
      cases e
      cases d
  have inB : K.In (hidT s.heap H) := fun c o e => hidT_get (KX c o e) (by
    rcases hA c with z | ⟨_, z, _⟩
    · exact z
    · rw [z] at e; cases e)
  have hM : Mod K mg (hidT s.heap H) := ⟨inB, nsOf hm, ⟨mb, nsOf hb, hbb⟩, let ⟨mc, h1, h2⟩ := hlim; ⟨mc, nsOf h1, h2⟩⟩
  have env : Env0 P w K mg (hidT s.heap H) callerA [] s H := ⟨rfl, hM, fun _ _ e => of_hidT e, Nat.le_of_eq (hidT_size _ _), trivial, (fun _ z => nomatch z), hok, .of_eq hge⟩
  refine codeAny_mono ((F _ inB (nsOf hm)).go callerA [] s H ⟨[.ref a], []⟩ [.ref a] [.ref a] _ _ rfl hr env (hbind s (.ref a)) (.cons rfl .nil) hsp) fun r s' h => ?_
  rcases r with e | fl
  · exact h.elim
  rcases fl with _ | _ | _ | u
  all_goals try exact False.elim h
  obtain ⟨v, H', os, bare, un, hok', r', q⟩ := h
  have q : v = .bl true := q
  subst q
  obtain rfl : u = Value.bool true := r'
  refine ⟨rfl, OldK.of_keep fun c o e => ?_, os, bare⟩
  rcases hA c with z | ⟨rfl, _, xs, z⟩
  · exact un.keep c o e z (fun y => nomatch y) (by simp)
  · obtain ⟨g1, _⟩ := hok c _ z
    obtain ⟨g2, _⟩ := hok' c _ (un.frzs c _ _ z)
    rw [e] at g1
    cases g1
    exact g2
theorem law_goG (KX : K.In s.heap) (hm : s.heap.Ns mainGlobals mg) (hb : s.heap.Ns builtinsNs mb) (hbb : ∀ x : Str, x ≠ "__name__" → mb x = bootBuiltins x) (hlim : s.heap.NoLimit) (hge : s.gens = #[]) (ha : s.heap.get? a = some (lstO vs)) (hi : IntsAre vs ns) (hl : ns.length ≤ sizeLine) (hr : Room k callerA)
    (F : ∀ base : Heap, K.In base → base.Ns mainGlobals mg → FnG P w K mg base k fa fd [x] sp) (hbind : ∀ (s : Shared) (u : Value), BindsTo s fd ⟨[u], []⟩ [(x, u)]) (hsp : ∀ H : Hp, SqL K H a (ns.map V.int) → sp [.ref a] H (fun v _ => v = .bl true) fun _ _ _ => False) : codeAny (model P w) callerA (.call (.ref fa) ⟨[.ref a], []⟩) (Left s) s := by
  have rv := vals_ints hi
  have ln := hi.length
  cases hk : K.lookup a with
  | some o =>
    have e := KX a o hk
    rw [ha] at e
    cases e
    refine law_from (H := fun _ => none) KX hm hb hbb hlim hge ha hr F hbind (hsp _ (.inr ⟨_, vs.toArray, _, hk, rfl, rfl, rfl, ?_, by simpa using rv⟩)) (fun c u z => nomatch z) fun _ => .inl rfl
    rw [List.size_toArray, ln]
    exact hl
  | none =>
    have at_a : (fun c => if c = a then some (HO.frz (lstO vs) (.lst (ns.map V.int))) else none : Hp) a = some (.frz (lstO vs) (.lst (ns.map V.int))) := if_pos rfl
    refine law_from (H := fun c => if c = a then some (.frz (lstO vs) (.lst (ns.map V.int))) else none) KX hm hb hbb hlim hge ha hr F hbind (hsp _ (.inl (.inr ⟨_, at_a⟩))) (fun c u z => ?_) fun c => ?_
    · by_cases e : c = a
      · subst e
        rw [at_a] at z
        cases z
        exact ⟨ha, by rw [List.length_map]; exact hl, vs, _, rv, ha⟩
      · have z' := (if_neg e).symm.trans z
        cases z'
    · by_cases e : c = a
      · subst e
        exact .inr ⟨rfl, hk, _, at_a⟩
      · exact .inl (if_neg e)
end
end Wr

set_option Elab.async false
set_option linter.all false
set_option maxRecDepth 100000
set_option maxHeartbeats 4000000
namespace Wr
open PySem PySem.Spec PyProof.Rows L2 Evl
theorem def_mk {K : PySem.W.Frag} {h : Heap} {mg : Str → Option Value} {x : Str} {st : Stmt} {ps : List Str} {f : Addr} {oc : Value} {od an : Option Addr} {osl : Array (Option Value)} {kV doc pm cdv ct : Value} (X : K.In h) (G : h.Ns mainGlobals mg)
    (a : PySem.W.nsIn K mainGlobals x = some (some (.ref f))) (l : K.lookup f = some ⟨oc, od, .func (PySem.W.fnOf x x (defArgs st) (defBody st) (defScope st) .none kV doc pm an cdv ct), osl⟩) (c : PySem.W.codeIn K cdv x = true) (k : PySem.W.keepIn K (.ref f) = true)
    (hb : ∀ (kV doc pm : Value) (an : Option Addr) (cdv ct : Value) (us : List Value), us.length = ps.length → bindArgs (PySem.W.fnOf x x (defArgs st) (defBody st) (defScope st) .none kV doc pm an cdv ct) ⟨us, []⟩ = pure (ps.zip us)) :
    Def K mg x st ps f (PySem.W.fnOf x x (defArgs st) (defBody st) (defScope st) .none kV doc pm an cdv ct) :=
  ⟨fun_mk (st := st) l c k, (fun_mk (st := st) l c k).binds hb, PySem.W.mg_of X G a⟩
theorem word_tup {K : PySem.W.Frag} {a : Addr} {n : Nat} {its : List Value} {xs : List V} (l : K.lookup a = some ⟨.type "tuple", none, .seq its.toArray n, #[]⟩) (hz : its.length ≤ 1000) (r : Vals xs its) : ∀ H, SqT K H a xs ∧ TN K H a := fun H =>
  ⟨.inr ⟨_, its.toArray, n, l, rfl, rfl, by rw [List.size_toArray]; exact Nat.le_trans hz (by decide), by simpa using r⟩, .inr ⟨_, l, rfl, rfl⟩⟩

theorem exm_self {K : PySem.W.Frag} {S : Addr} (h1 : PySem.W.subIn K (.ref S) (.type "BaseException") = some true) (h2 : PySem.W.isClsIn K S = true) (h3 : PySem.W.typeIn K (.ref S) = some (.type "type")) (h4 : PySem.W.subIn K (.ref S) (.ref S) = some true) :
    PySem.W.exmOne K (.ref S) (.ref S) = some true := by
  have e1 : (PySem.W.subIn K (.ref S) (.type "BaseException") == some true) = true := by rw [h1] <;> rfl
  have e2 : ((PySem.W.clsIn K S).isSome && PySem.W.typeIn K (.ref S) == some (.type "type")) = true := by
    have h2' : (PySem.W.clsIn K S).isSome = true := h2
    rw [h2', h3] <;> rfl
  have e3 : PySem.W.kitCls K (.ref S) (.ref S) = some true := by
    unfold PySem.W.kitCls
    exact (if_pos e2).trans h4
  unfold PySem.W.exmOne
  exact (if_pos e1).trans e3
theorem kit_sub {K : PySem.W.Frag} {S : Addr} {T : String} (hm : PySem.W.kitMeta T = true) (h : PySem.W.subIn K (.ref S) (.type T) = some true) : PySem.W.kitOne K (.ref S) (.type T) = some true := by
  have e : PySem.W.kitCls K (.ref S) (.type T) = some true := by
    unfold PySem.W.kitCls
    exact (if_pos hm).trans h
  unfold PySem.W.kitOne
  split
  · rfl
  · exact e
theorem all_mk {l : PySem.W.OpenLaw} {w : World} {K : PySem.W.Frag} {h : Heap} {mg : Str → Option Value} {fa C cU d0 d1 d2 d3 d4 d5 d6 d7 d8 d9 fI f1 f2 f3 f4 f5 f6 f7 f8 f9 f10 f11 f12 f13 f14 f15 f16 f17 f18 f19 f20 f21 f22 f23 f24 f25 : Addr} (X : K.In h) (G : h.Ns mainGlobals mg) (hfa : mg "law" = some (.ref fa))
    {nm q : Str} {Nn : Addr} {bs : List Value} {sn : List Str} {sub : List Value} {ab : Bool} {col : Option Bool} {dd : Option Addr} {mm0 mm1 mm2 mm3 mm5 : Option Value}
    {odI anI : Option Addr} {slI : Array (Option Value)} {ocI kVI dcI pmI cdI ctI : Value}
    (aC : PySem.W.nsIn K mainGlobals "TooLong" = some (some (.ref C)))
    (xL : K.lookup C = some (excClassObj nm q C Nn bs oeTail true sn sub ab col dd mm0 mm1 mm2 mm3 mm5 "OverflowError.__new__"))
    (sa : PySem.W.findIn K (.ref C) "__setattr__" = some (some (.builtin "object.__setattr__"))) (ga : PySem.W.findIn K (.ref C) "__getattribute__" = some (some (.builtin "BaseException.__getattribute__"))) (gg : PySem.W.findIn K (.ref C) "__getattr__" = some none) (nb : PySem.W.findIn K (.ref C) "many" = some none)
    (aI : PySem.W.findIn K (.ref C) "__init__" = some (some (.ref fI))) (tI : PySem.W.typeIn K (.ref fI) = some (.type "function"))
    (lI : K.lookup fI = some ⟨ocI, odI, .func (PySem.W.fnOf "__init__" "TooLong.__init__" (defArgs s_tli) (defBody s_tli) (defScope s_tli) .none kVI dcI pmI anI cdI ctI), slI⟩) (cI : PySem.W.codeIn K cdI "TooLong.__init__" = true) (kI : PySem.W.keepIn K (.ref fI) = true)
    (kC : PySem.W.keepIn K (.ref C) = true) (eC : PySem.W.subIn K (.ref C) (.type "BaseException") = some true) (tC : PySem.W.typeIn K (.ref C) = some (.type "type")) (hC : PySem.W.hasDictIn K C = true) (iC : PySem.W.isClsIn K C = true) (sC : PySem.W.subIn K (.ref C) (.ref C) = some true)
    (vC : PySem.W.findCls K (.type "OverflowError") (.type "type") "__init__" = some (.val (.builtin "OverflowError.__init__"))) (caC : PySem.W.findIn K (.ref C) "__class__" = some (some (.builtin "object.__class__"))) (spC : PySem.W.specialIn K (.builtin "object.__class__") "__get__" = some (some (.builtin "getset_descriptor.__get__")))
    (tkC : PySem.W.takesIn K (.builtin "object.__class__") = some true) (mrC : PySem.W.mroIn K C (.type "object") = some true) (skC : PySem.W.subIn K (.ref C) (.type "OverflowError") = some true)
    (aU : PySem.W.nsIn K mainGlobals "Unsound" = some (some (.ref cU))) (oU : PySem.W.kitOne K (.ref C) (.ref cU) = some false)
    (b0 : PySem.W.nsIn K mainGlobals "NoHook" = some (some (.ref d0))) (o0 : PySem.W.kitOne K (.ref C) (.ref d0) = some false)
    (b1 : PySem.W.nsIn K mainGlobals "NoMark" = some (some (.ref d1))) (o1 : PySem.W.kitOne K (.ref C) (.ref d1) = some false)
    (b2 : PySem.W.nsIn K mainGlobals "NoNumbers" = some (some (.ref d2))) (o2 : PySem.W.kitOne K (.ref C) (.ref d2) = some false)
    (b3 : PySem.W.nsIn K mainGlobals "NoPart" = some (some (.ref d3))) (o3 : PySem.W.kitOne K (.ref C) (.ref d3) = some false)
    (b4 : PySem.W.nsIn K mainGlobals "NoProgram" = some (some (.ref d4))) (o4 : PySem.W.kitOne K (.ref C) (.ref d4) = some false)
    (b5 : PySem.W.nsIn K mainGlobals "NoRow" = some (some (.ref d5))) (o5 : PySem.W.kitOne K (.ref C) (.ref d5) = some false)
    (b6 : PySem.W.nsIn K mainGlobals "NoText" = some (some (.ref d6))) (o6 : PySem.W.kitOne K (.ref C) (.ref d6) = some false)
    (b7 : PySem.W.nsIn K mainGlobals "NoWord" = some (some (.ref d7))) (o7 : PySem.W.kitOne K (.ref C) (.ref d7) = some false)
    (b8 : PySem.W.nsIn K mainGlobals "TooMany" = some (some (.ref d8))) (o8 : PySem.W.kitOne K (.ref C) (.ref d8) = some false)
    (b9 : PySem.W.nsIn K mainGlobals "Busy" = some (some (.ref d9))) (o9 : PySem.W.kitOne K (.ref C) (.ref d9) = some false)
    {od1 an1 : Option Addr} {sl1 : Array (Option Value)} {oc1 kV1 dc1 pm1 cd1 ct1 : Value}
    (a1 : PySem.W.nsIn K mainGlobals "made" = some (some (.ref f1))) (l1 : K.lookup f1 = some ⟨oc1, od1, .func (PySem.W.fnOf "made" "made" (defArgs s_made) (defBody s_made) (defScope s_made) .none kV1 dc1 pm1 an1 cd1 ct1), sl1⟩) (c1 : PySem.W.codeIn K cd1 "made" = true) (k1 : PySem.W.keepIn K (.ref f1) = true)
    {od2 an2 : Option Addr} {sl2 : Array (Option Value)} {oc2 kV2 dc2 pm2 cd2 ct2 : Value}
    (a2 : PySem.W.nsIn K mainGlobals "made_part" = some (some (.ref f2))) (l2 : K.lookup f2 = some ⟨oc2, od2, .func (PySem.W.fnOf "made_part" "made_part" (defArgs s_mpart) (defBody s_mpart) (defScope s_mpart) .none kV2 dc2 pm2 an2 cd2 ct2), sl2⟩) (c2 : PySem.W.codeIn K cd2 "made_part" = true) (k2 : PySem.W.keepIn K (.ref f2) = true)
    {od3 an3 : Option Addr} {sl3 : Array (Option Value)} {oc3 kV3 dc3 pm3 cd3 ct3 : Value}
    (a3 : PySem.W.nsIn K mainGlobals "sayings_rows" = some (some (.ref f3))) (l3 : K.lookup f3 = some ⟨oc3, od3, .func (PySem.W.fnOf "sayings_rows" "sayings_rows" (defArgs s_ssrows) (defBody s_ssrows) (defScope s_ssrows) .none kV3 dc3 pm3 an3 cd3 ct3), sl3⟩) (c3 : PySem.W.codeIn K cd3 "sayings_rows" = true) (k3 : PySem.W.keepIn K (.ref f3) = true)
    {od4 an4 : Option Addr} {sl4 : Array (Option Value)} {oc4 kV4 dc4 pm4 cd4 ct4 : Value}
    (a4 : PySem.W.nsIn K mainGlobals "saying_rows" = some (some (.ref f4))) (l4 : K.lookup f4 = some ⟨oc4, od4, .func (PySem.W.fnOf "saying_rows" "saying_rows" (defArgs s_srows) (defBody s_srows) (defScope s_srows) .none kV4 dc4 pm4 an4 cd4 ct4), sl4⟩) (c4 : PySem.W.codeIn K cd4 "saying_rows" = true) (k4 : PySem.W.keepIn K (.ref f4) = true)
    {od5 an5 : Option Addr} {sl5 : Array (Option Value)} {oc5 kV5 dc5 pm5 cd5 ct5 : Value}
    (a5 : PySem.W.nsIn K mainGlobals "if_rows" = some (some (.ref f5))) (l5 : K.lookup f5 = some ⟨oc5, od5, .func (PySem.W.fnOf "if_rows" "if_rows" (defArgs s_ifrows) (defBody s_ifrows) (defScope s_ifrows) .none kV5 dc5 pm5 an5 cd5 ct5), sl5⟩) (c5 : PySem.W.codeIn K cd5 "if_rows" = true) (k5 : PySem.W.keepIn K (.ref f5) = true)
    {od6 an6 : Option Addr} {sl6 : Array (Option Value)} {oc6 kV6 dc6 pm6 cd6 ct6 : Value}
    (a6 : PySem.W.nsIn K mainGlobals "while_rows" = some (some (.ref f6))) (l6 : K.lookup f6 = some ⟨oc6, od6, .func (PySem.W.fnOf "while_rows" "while_rows" (defArgs s_whrows) (defBody s_whrows) (defScope s_whrows) .none kV6 dc6 pm6 an6 cd6 ct6), sl6⟩) (c6 : PySem.W.codeIn K cd6 "while_rows" = true) (k6 : PySem.W.keepIn K (.ref f6) = true)
    {od7 an7 : Option Addr} {sl7 : Array (Option Value)} {oc7 kV7 dc7 pm7 cd7 ct7 : Value}
    (a7 : PySem.W.nsIn K mainGlobals "try_rows" = some (some (.ref f7))) (l7 : K.lookup f7 = some ⟨oc7, od7, .func (PySem.W.fnOf "try_rows" "try_rows" (defArgs s_trrows) (defBody s_trrows) (defScope s_trrows) .none kV7 dc7 pm7 an7 cd7 ct7), sl7⟩) (c7 : PySem.W.codeIn K cd7 "try_rows" = true) (k7 : PySem.W.keepIn K (.ref f7) = true)
    {od8 an8 : Option Addr} {sl8 : Array (Option Value)} {oc8 kV8 dc8 pm8 cd8 ct8 : Value}
    (a8 : PySem.W.nsIn K mainGlobals "value_rows" = some (some (.ref f8))) (l8 : K.lookup f8 = some ⟨oc8, od8, .func (PySem.W.fnOf "value_rows" "value_rows" (defArgs s_vrows) (defBody s_vrows) (defScope s_vrows) .none kV8 dc8 pm8 an8 cd8 ct8), sl8⟩) (c8 : PySem.W.codeIn K cd8 "value_rows" = true) (k8 : PySem.W.keepIn K (.ref f8) = true)
    {od9 an9 : Option Addr} {sl9 : Array (Option Value)} {oc9 kV9 dc9 pm9 cd9 ct9 : Value}
    (a9 : PySem.W.nsIn K mainGlobals "_law_bag" = some (some (.ref f9))) (l9 : K.lookup f9 = some ⟨oc9, od9, .func (PySem.W.fnOf "_law_bag" "_law_bag" (defArgs s_bag) (defBody s_bag) (defScope s_bag) .none kV9 dc9 pm9 an9 cd9 ct9), sl9⟩) (c9 : PySem.W.codeIn K cd9 "_law_bag" = true) (k9 : PySem.W.keepIn K (.ref f9) = true)
    {od10 an10 : Option Addr} {sl10 : Array (Option Value)} {oc10 kV10 dc10 pm10 cd10 ct10 : Value}
    (a10 : PySem.W.nsIn K mainGlobals "_law_take" = some (some (.ref f10))) (l10 : K.lookup f10 = some ⟨oc10, od10, .func (PySem.W.fnOf "_law_take" "_law_take" (defArgs s_take) (defBody s_take) (defScope s_take) .none kV10 dc10 pm10 an10 cd10 ct10), sl10⟩) (c10 : PySem.W.codeIn K cd10 "_law_take" = true) (k10 : PySem.W.keepIn K (.ref f10) = true)
    {od11 an11 : Option Addr} {sl11 : Array (Option Value)} {oc11 kV11 dc11 pm11 cd11 ct11 : Value}
    (a11 : PySem.W.nsIn K mainGlobals "_law_worth" = some (some (.ref f11))) (l11 : K.lookup f11 = some ⟨oc11, od11, .func (PySem.W.fnOf "_law_worth" "_law_worth" (defArgs s_worthT) (defBody s_worthT) (defScope s_worthT) .none kV11 dc11 pm11 an11 cd11 ct11), sl11⟩) (c11 : PySem.W.codeIn K cd11 "_law_worth" = true) (k11 : PySem.W.keepIn K (.ref f11) = true)
    {od12 an12 : Option Addr} {sl12 : Array (Option Value)} {oc12 kV12 dc12 pm12 cd12 ct12 : Value}
    (a12 : PySem.W.nsIn K mainGlobals "_law_value" = some (some (.ref f12))) (l12 : K.lookup f12 = some ⟨oc12, od12, .func (PySem.W.fnOf "_law_value" "_law_value" (defArgs s_value) (defBody s_value) (defScope s_value) .none kV12 dc12 pm12 an12 cd12 ct12), sl12⟩) (c12 : PySem.W.codeIn K cd12 "_law_value" = true) (k12 : PySem.W.keepIn K (.ref f12) = true)
    {od13 an13 : Option Addr} {sl13 : Array (Option Value)} {oc13 kV13 dc13 pm13 cd13 ct13 : Value}
    (a13 : PySem.W.nsIn K mainGlobals "_law_saying" = some (some (.ref f13))) (l13 : K.lookup f13 = some ⟨oc13, od13, .func (PySem.W.fnOf "_law_saying" "_law_saying" (defArgs s_saying) (defBody s_saying) (defScope s_saying) .none kV13 dc13 pm13 an13 cd13 ct13), sl13⟩) (c13 : PySem.W.codeIn K cd13 "_law_saying" = true) (k13 : PySem.W.keepIn K (.ref f13) = true)
    {od14 an14 : Option Addr} {sl14 : Array (Option Value)} {oc14 kV14 dc14 pm14 cd14 ct14 : Value}
    (a14 : PySem.W.nsIn K mainGlobals "_law_sayings" = some (some (.ref f14))) (l14 : K.lookup f14 = some ⟨oc14, od14, .func (PySem.W.fnOf "_law_sayings" "_law_sayings" (defArgs s_sayings) (defBody s_sayings) (defScope s_sayings) .none kV14 dc14 pm14 an14 cd14 ct14), sl14⟩) (c14 : PySem.W.codeIn K cd14 "_law_sayings" = true) (k14 : PySem.W.keepIn K (.ref f14) = true)
    {od15 an15 : Option Addr} {sl15 : Array (Option Value)} {oc15 kV15 dc15 pm15 cd15 ct15 : Value}
    (a15 : PySem.W.nsIn K mainGlobals "_law_tree" = some (some (.ref f15))) (l15 : K.lookup f15 = some ⟨oc15, od15, .func (PySem.W.fnOf "_law_tree" "_law_tree" (defArgs s_tree) (defBody s_tree) (defScope s_tree) .none kV15 dc15 pm15 an15 cd15 ct15), sl15⟩) (c15 : PySem.W.codeIn K cd15 "_law_tree" = true) (k15 : PySem.W.keepIn K (.ref f15) = true)
    {od16 an16 : Option Addr} {sl16 : Array (Option Value)} {oc16 kV16 dc16 pm16 cd16 ct16 : Value}
    (a16 : PySem.W.nsIn K mainGlobals "_law_emit_value" = some (some (.ref f16))) (l16 : K.lookup f16 = some ⟨oc16, od16, .func (PySem.W.fnOf "_law_emit_value" "_law_emit_value" (defArgs s_emv) (defBody s_emv) (defScope s_emv) .none kV16 dc16 pm16 an16 cd16 ct16), sl16⟩) (c16 : PySem.W.codeIn K cd16 "_law_emit_value" = true) (k16 : PySem.W.keepIn K (.ref f16) = true)
    {od17 an17 : Option Addr} {sl17 : Array (Option Value)} {oc17 kV17 dc17 pm17 cd17 ct17 : Value}
    (a17 : PySem.W.nsIn K mainGlobals "_law_emit_one" = some (some (.ref f17))) (l17 : K.lookup f17 = some ⟨oc17, od17, .func (PySem.W.fnOf "_law_emit_one" "_law_emit_one" (defArgs s_em1) (defBody s_em1) (defScope s_em1) .none kV17 dc17 pm17 an17 cd17 ct17), sl17⟩) (c17 : PySem.W.codeIn K cd17 "_law_emit_one" = true) (k17 : PySem.W.keepIn K (.ref f17) = true)
    {od18 an18 : Option Addr} {sl18 : Array (Option Value)} {oc18 kV18 dc18 pm18 cd18 ct18 : Value}
    (a18 : PySem.W.nsIn K mainGlobals "_law_emit" = some (some (.ref f18))) (l18 : K.lookup f18 = some ⟨oc18, od18, .func (PySem.W.fnOf "_law_emit" "_law_emit" (defArgs s_em) (defBody s_em) (defScope s_em) .none kV18 dc18 pm18 an18 cd18 ct18), sl18⟩) (c18 : PySem.W.codeIn K cd18 "_law_emit" = true) (k18 : PySem.W.keepIn K (.ref f18) = true)
    {od19 an19 : Option Addr} {sl19 : Array (Option Value)} {oc19 kV19 dc19 pm19 cd19 ct19 : Value}
    (a19 : PySem.W.nsIn K mainGlobals "_law_rows" = some (some (.ref f19))) (l19 : K.lookup f19 = some ⟨oc19, od19, .func (PySem.W.fnOf "_law_rows" "_law_rows" (defArgs s_rowsL) (defBody s_rowsL) (defScope s_rowsL) .none kV19 dc19 pm19 an19 cd19 ct19), sl19⟩) (c19 : PySem.W.codeIn K cd19 "_law_rows" = true) (k19 : PySem.W.keepIn K (.ref f19) = true)
    {od20 an20 : Option Addr} {sl20 : Array (Option Value)} {oc20 kV20 dc20 pm20 cd20 ct20 : Value}
    (a20 : PySem.W.nsIn K mainGlobals "_law_short" = some (some (.ref f20))) (l20 : K.lookup f20 = some ⟨oc20, od20, .func (PySem.W.fnOf "_law_short" "_law_short" (defArgs s_short) (defBody s_short) (defScope s_short) .none kV20 dc20 pm20 an20 cd20 ct20), sl20⟩) (c20 : PySem.W.codeIn K cd20 "_law_short" = true) (k20 : PySem.W.keepIn K (.ref f20) = true)
    {od21 an21 : Option Addr} {sl21 : Array (Option Value)} {oc21 kV21 dc21 pm21 cd21 ct21 : Value}
    (a21 : PySem.W.nsIn K mainGlobals "_law_told" = some (some (.ref f21))) (l21 : K.lookup f21 = some ⟨oc21, od21, .func (PySem.W.fnOf "_law_told" "_law_told" (defArgs s_to) (defBody s_to) (defScope s_to) .none kV21 dc21 pm21 an21 cd21 ct21), sl21⟩) (c21 : PySem.W.codeIn K cd21 "_law_told" = true) (k21 : PySem.W.keepIn K (.ref f21) = true)
    {od22 an22 : Option Addr} {sl22 : Array (Option Value)} {oc22 kV22 dc22 pm22 cd22 ct22 : Value}
    (a22 : PySem.W.nsIn K mainGlobals "_law_due" = some (some (.ref f22))) (l22 : K.lookup f22 = some ⟨oc22, od22, .func (PySem.W.fnOf "_law_due" "_law_due" (defArgs s_due) (defBody s_due) (defScope s_due) .none kV22 dc22 pm22 an22 cd22 ct22), sl22⟩) (c22 : PySem.W.codeIn K cd22 "_law_due" = true) (k22 : PySem.W.keepIn K (.ref f22) = true)
    {od23 an23 : Option Addr} {sl23 : Array (Option Value)} {oc23 kV23 dc23 pm23 cd23 ct23 : Value}
    (a23 : PySem.W.nsIn K mainGlobals "_law_right" = some (some (.ref f23))) (l23 : K.lookup f23 = some ⟨oc23, od23, .func (PySem.W.fnOf "_law_right" "_law_right" (defArgs s_ri) (defBody s_ri) (defScope s_ri) .none kV23 dc23 pm23 an23 cd23 ct23), sl23⟩) (c23 : PySem.W.codeIn K cd23 "_law_right" = true) (k23 : PySem.W.keepIn K (.ref f23) = true)
    {od24 an24 : Option Addr} {sl24 : Array (Option Value)} {oc24 kV24 dc24 pm24 cd24 ct24 : Value}
    (a24 : PySem.W.nsIn K mainGlobals "_law_balanced" = some (some (.ref f24))) (l24 : K.lookup f24 = some ⟨oc24, od24, .func (PySem.W.fnOf "_law_balanced" "_law_balanced" (defArgs s_ba) (defBody s_ba) (defScope s_ba) .none kV24 dc24 pm24 an24 cd24 ct24), sl24⟩) (c24 : PySem.W.codeIn K cd24 "_law_balanced" = true) (k24 : PySem.W.keepIn K (.ref f24) = true)
    {od25 an25 : Option Addr} {sl25 : Array (Option Value)} {oc25 kV25 dc25 pm25 cd25 ct25 : Value}
    (a25 : PySem.W.nsIn K mainGlobals "law" = some (some (.ref f25))) (l25 : K.lookup f25 = some ⟨oc25, od25, .func (PySem.W.fnOf "law" "law" (defArgs s_law) (defBody s_law) (defScope s_law) .none kV25 dc25 pm25 an25 cd25 ct25), sl25⟩) (c25 : PySem.W.codeIn K cd25 "law" = true) (k25 : PySem.W.keepIn K (.ref f25) = true)
    {t1 : Tok} (m1 : PySem.W.nsIn K mainGlobals "MOST_PART_ROWS" = some (some (.int 60 t1)))
    (z1 : PySem.W.nsIn K mainGlobals "isinstance" = some none)
    (z2 : PySem.W.nsIn K mainGlobals "len" = some none)
    (z3 : PySem.W.nsIn K mainGlobals "all" = some none)
    (z4 : PySem.W.nsIn K mainGlobals "enumerate" = some none)
    (z5 : PySem.W.nsIn K mainGlobals "set" = some none)
    (z6 : PySem.W.nsIn K mainGlobals "int" = some none)
    (z7 : PySem.W.nsIn K mainGlobals "bool" = some none)
    (z8 : PySem.W.nsIn K mainGlobals "str" = some none)
    (z9 : PySem.W.nsIn K mainGlobals "tuple" = some none)
    (z10 : PySem.W.nsIn K mainGlobals "list" = some none)
    (z11 : PySem.W.nsIn K mainGlobals "range" = some none)
    (z12 : PySem.W.nsIn K mainGlobals "abs" = some none)
    (z13 : PySem.W.nsIn K mainGlobals "max" = some none)
    (z14 : PySem.W.nsIn K mainGlobals "min" = some none)
    (z15 : PySem.W.nsIn K mainGlobals "repr" = some none)
    (z16 : PySem.W.nsIn K mainGlobals "sorted" = some none)
    (z17 : PySem.W.nsIn K mainGlobals "OverflowError" = some none)
    : ∃ fd : FuncData, (∀ (s : Shared) (v : Value), BindsTo s fd ⟨[v], []⟩ [("_law_script", v)]) ∧ ∀ base : Heap, K.In base → base.Ns mainGlobals mg → FnG l.prog w K mg base 25 fa fd ["_law_script"] (spLaw K) := by
  have e := hfa.symm.trans (PySem.W.mg_of X G a25)
  cases e
  have D1 := def_mk (st := s_made) (ps := ["tree"]) X G a1 l1 c1 k1 fun _ _ _ _ _ _ us hl => match us, hl with | [_], _ => rfl
  have D2 := def_mk (st := s_mpart) (ps := ["name", "names", "sayings"]) X G a2 l2 c2 k2 fun _ _ _ _ _ _ us hl => match us, hl with | [_, _, _], _ => rfl
  have D3 := def_mk (st := s_ssrows) (ps := ["sayings", "start"]) X G a3 l3 c3 k3 fun _ _ _ _ _ _ us hl => match us, hl with | [_, _], _ => rfl
  have D4 := def_mk (st := s_srows) (ps := ["saying", "start"]) X G a4 l4 c4 k4 fun _ _ _ _ _ _ us hl => match us, hl with | [_, _], _ => rfl
  have D5 := def_mk (st := s_ifrows) (ps := ["value", "first", "second", "start"]) X G a5 l5 c5 k5 fun _ _ _ _ _ _ us hl => match us, hl with | [_, _, _, _], _ => rfl
  have D6 := def_mk (st := s_whrows) (ps := ["value", "sayings", "start"]) X G a6 l6 c6 k6 fun _ _ _ _ _ _ us hl => match us, hl with | [_, _, _], _ => rfl
  have D7 := def_mk (st := s_trrows) (ps := ["first", "name", "second", "start"]) X G a7 l7 c7 k7 fun _ _ _ _ _ _ us hl => match us, hl with | [_, _, _, _], _ => rfl
  have D8 := def_mk (st := s_vrows) (ps := ["value"]) X G a8 l8 c8 k8 fun _ _ _ _ _ _ us hl => match us, hl with | [_], _ => rfl
  have D9 := def_mk (st := s_bag) (ps := ["_law_script", "_law_at"]) X G a9 l9 c9 k9 fun _ _ _ _ _ _ us hl => match us, hl with | [_, _], _ => rfl
  have D10 := def_mk (st := s_take) (ps := ["_law_bag_here", "_law_many"]) X G a10 l10 c10 k10 fun _ _ _ _ _ _ us hl => match us, hl with | [_, _], _ => rfl
  have D11 := def_mk (st := s_worthT) (ps := ["_law_bag_here"]) X G a11 l11 c11 k11 fun _ _ _ _ _ _ us hl => match us, hl with | [_], _ => rfl
  have D12 := def_mk (st := s_value) (ps := ["_law_bag_here", "_law_heads", "_law_deep"]) X G a12 l12 c12 k12 fun _ _ _ _ _ _ us hl => match us, hl with | [_, _, _], _ => rfl
  have D13 := def_mk (st := s_saying) (ps := ["_law_bag_here", "_law_heads", "_law_deep", "_law_wide"]) X G a13 l13 c13 k13 fun _ _ _ _ _ _ us hl => match us, hl with | [_, _, _, _], _ => rfl
  have D14 := def_mk (st := s_sayings) (ps := ["_law_bag_here", "_law_heads", "_law_deep", "_law_wide"]) X G a14 l14 c14 k14 fun _ _ _ _ _ _ us hl => match us, hl with | [_, _, _, _], _ => rfl
  have D15 := def_mk (st := s_tree) (ps := ["_law_bag_here"]) X G a15 l15 c15 k15 fun _ _ _ _ _ _ us hl => match us, hl with | [_], _ => rfl
  have D16 := def_mk (st := s_emv) (ps := ["_law_rows_here", "_law_value_here"]) X G a16 l16 c16 k16 fun _ _ _ _ _ _ us hl => match us, hl with | [_, _], _ => rfl
  have D17 := def_mk (st := s_em1) (ps := ["_law_rows_here", "_law_saying_here"]) X G a17 l17 c17 k17 fun _ _ _ _ _ _ us hl => match us, hl with | [_, _], _ => rfl
  have D18 := def_mk (st := s_em) (ps := ["_law_rows_here", "_law_sayings_here"]) X G a18 l18 c18 k18 fun _ _ _ _ _ _ us hl => match us, hl with | [_, _], _ => rfl
  have D19 := def_mk (st := s_rowsL) (ps := ["_law_sayings_here"]) X G a19 l19 c19 k19 fun _ _ _ _ _ _ us hl => match us, hl with | [_], _ => rfl
  have D20 := def_mk (st := s_short) (ps := ["_law_tree_here"]) X G a20 l20 c20 k20 fun _ _ _ _ _ _ us hl => match us, hl with | [_], _ => rfl
  have D21 := def_mk (st := s_to) (ps := ["_law_tree_here"]) X G a21 l21 c21 k21 fun _ _ _ _ _ _ us hl => match us, hl with | [_], _ => rfl
  have D22 := def_mk (st := s_due) (ps := ["_law_tree_here"]) X G a22 l22 c22 k22 fun _ _ _ _ _ _ us hl => match us, hl with | [_], _ => rfl
  have D23 := def_mk (st := s_ri) (ps := ["_law_tree_here"]) X G a23 l23 c23 k23 fun _ _ _ _ _ _ us hl => match us, hl with | [_], _ => rfl
  have D24 := def_mk (st := s_ba) (ps := ["_law_leaves"]) X G a24 l24 c24 k24 fun _ _ _ _ _ _ us hl => match us, hl with | [_], _ => rfl
  have D25 := def_mk (st := s_law) (ps := ["_law_script"]) X G a25 l25 c25 k25 fun _ _ _ _ _ _ us hl => match us, hl with | [_], _ => rfl
  have B : Blt mg := ⟨PySem.W.mg_none_of X G z1, PySem.W.mg_none_of X G z2, PySem.W.mg_none_of X G z3, PySem.W.mg_none_of X G z4, PySem.W.mg_none_of X G z5, PySem.W.mg_none_of X G z6, PySem.W.mg_none_of X G z7, PySem.W.mg_none_of X G z8, PySem.W.mg_none_of X G z9, PySem.W.mg_none_of X G z10, PySem.W.mg_none_of X G z11⟩
  have B2 : Blt2 mg := ⟨PySem.W.mg_none_of X G z12, PySem.W.mg_none_of X G z13, PySem.W.mg_none_of X G z14, PySem.W.mg_none_of X G z15⟩
  have hso := PySem.W.mg_none_of X G z16
  have M1 := PySem.W.mg_of X G m1
  have FI := fun_mk (st := s_tli) lI cI kI
  have TT : OeC K C := ⟨oe_tail, ⟨nm, q, Nn, bs, sn, sub, ab, col, dd, mm0, mm1, mm2, mm3, mm5, xL⟩, sa, eC, tC, kC⟩
  have T : TlC K mg C fI _ := ⟨TT, FI, FI.binds fun _ _ _ _ _ _ us hl => match us, hl with | [_, _], _ => rfl, PySem.W.mg_of X G aC, aI, tI, nb, vC, PySem.W.mg_none_of X G z17⟩
  have XF : XfC K C := ⟨ga, gg, eC, hC⟩
  have IT : IsxC K C := ⟨iC, ga, gg, eC, caC, spC, tkC, mrC⟩
  have te := exm_self eC iC tC sC
  have ov := kit_sub (K := K) (S := C) (T := "OverflowError") (by decide +kernel) skC
  have O : OthT K mg C cU [d0, d1, d2, d3, d4, d5, d6, d7, d8, d9] := ⟨rfl, PySem.W.mg_of X G b0, PySem.W.mg_of X G b1, PySem.W.mg_of X G b2, PySem.W.mg_of X G b3, PySem.W.mg_of X G b4, PySem.W.mg_of X G b5, PySem.W.mg_of X G b6, PySem.W.mg_of X G b7, PySem.W.mg_of X G b8, PySem.W.mg_of X G b9, PySem.W.mg_of X G aU, (kitAny_cons o0 (fun _ => (kitAny_cons o1 (fun _ => (kitAny_cons o2 (fun _ => (kitAny_cons o3 (fun _ => (kitAny_cons o4 (fun _ => (kitAny_cons o5 (fun _ => (kitAny_cons o6 (fun _ => (kitAny_cons o7 (fun _ => (kitAny_cons o8 (fun _ => (kitAny_cons o9 (fun _ => kitAny_nil) (fun z => nomatch z))) (fun z => nomatch z))) (fun z => nomatch z))) (fun z => nomatch z))) (fun z => nomatch z))) (fun z => nomatch z))) (fun z => nomatch z))) (fun z => nomatch z))) (fun z => nomatch z))) (fun z => nomatch z)), oU, ov⟩
  refine ⟨PySem.W.fnOf "law" "law" (defArgs s_law) (defBody s_law) (defScope s_law) .none kV25 dc25 pm25 an25 cd25 ct25, fun s v => .of_eq rfl, fun base _ _ => ?_⟩
  have gmp := ok_mpartX (P := l.prog) (w := w) (base := base) T D2 D3 D4 D8 D5 D6 D7 B M1
  have gmd := ok_madeX D1 D2 gmp B
  have gto := ok_to D21 D1 gmd T IT XF O te B
  have grw := ok_rowsL (P := l.prog) (w := w) (base := base) D19 D17 D18 D16 B
  have gsh := ok_short D20 D19 grw B
  have gdu := ok_due D22 D19 grw B
  have gri := ok_ri D23 D22 gdu D21 gto B B2
  have gba := ok_ba (P := l.prog) (w := w) (base := base) D24 3 (by decide)
  have gbg := ok_bag (P := l.prog) (w := w) (base := base) D9 B B2
  have gtr := ok_tree (P := l.prog) (w := w) (base := base) D15 D10 D14 D13 D12 D11 B hso
  exact ok_law D25 B B2 D9 gbg D15 gtr D20 gsh D23 gri D21 gto D24 gba
theorem walkG {l : PySem.W.OpenLaw} {q : Program} {loose : List Str} {XP : (Str → Option Value) → Heap → Prop} {YP : World → Heap → Prop} {d : DefRec} {K : Params → PySem.W.Frag} (hn : l.most = some 63) (hdf : d.params.defaults = [])
    (hY : ∀ (w : World) (h : Heap), YP w h → (K w.params).In h)
    (F : ∀ (w : World) (mg : Str → Option Value) (fa : Addr) (h : Heap), (K w.params).In h → h.Ns mainGlobals mg → mg d.name = some (.ref fa) →
      ∃ fd : FuncData, (∀ (s : Shared) (u : Value), BindsTo s fd ⟨[u], []⟩ [("_law_script", u)]) ∧ ∀ base : Heap, (K w.params).In base → base.Ns mainGlobals mg → FnG l.prog w (K w.params) mg base 25 fa fd ["_law_script"] (spLaw (K w.params))) :
    PySem.W.WalkO q loose XP YP l.row.toRowW d [] (fun f vs => PySem.call f vs) :=
  Att.attach_call hn hdf fun w s₀ s₁ mg mb fa o pm cd doc a vs ns G Y ho hd hcd hmg hobj hints hlen hge => by
    have KX := hY w _ Y
    obtain ⟨fd, hb, hF⟩ := F w mg fa _ KX G.T.g hmg
    exact law_goG KX G.T.g G.T.b G.T.builtins G.T.nolimit hge hobj hints (Nat.le_trans hlen (by decide)) ⟨rfl, by decide, by decide⟩ hF hb fun H hS => ⟨a, ns, rfl, hS, by omega, fun _ => rfl⟩
end Wr

set_option Elab.async false
set_option linter.all false
open PySem PySem.W PyProof.Rows
set_option maxRecDepth 100000 in
set_option maxHeartbeats 0 in
theorem PySem.Challenge.cw_watchedrun_k08_trees_made_holds : PySem.Challenge.rw_watchedrun_k08_trees_made.Holds := by
  w_on; o_law; k_head; (case hw => w_witness2)
  k_fill
  refine Wr.walkG (l := PySem.Challenge.rw_watchedrun_k08_trees_made) rfl rfl (fun w h Y => PySem.W.kIn_of Y) ?F
  case F =>
    intro w mg fa h KX G hmg
    refine' Wr.all_mk KX G hmg ?aC ?xL ?sa ?ga ?gg ?nb ?aI ?tI ?lI ?cI ?kI ?kC ?eC ?tC ?hC ?iC ?sC ?vC ?caC ?spC ?tkC ?mrC ?skC ?aU ?oU ?b0 ?o0 ?b1 ?o1 ?b2 ?o2 ?b3 ?o3 ?b4 ?o4 ?b5 ?o5 ?b6 ?o6 ?b7 ?o7 ?b8 ?o8 ?b9 ?o9 ?a1 ?l1 ?c1 ?k1 ?a2 ?l2 ?c2 ?k2 ?a3 ?l3 ?c3 ?k3 ?a4 ?l4 ?c4 ?k4 ?a5 ?l5 ?c5 ?k5 ?a6 ?l6 ?c6 ?k6 ?a7 ?l7 ?c7 ?k7 ?a8 ?l8 ?c8 ?k8 ?a9 ?l9 ?c9 ?k9 ?a10 ?l10 ?c10 ?k10 ?a11 ?l11 ?c11 ?k11 ?a12 ?l12 ?c12 ?k12 ?a13 ?l13 ?c13 ?k13 ?a14 ?l14 ?c14 ?k14 ?a15 ?l15 ?c15 ?k15 ?a16 ?l16 ?c16 ?k16 ?a17 ?l17 ?c17 ?k17 ?a18 ?l18 ?c18 ?k18 ?a19 ?l19 ?c19 ?k19 ?a20 ?l20 ?c20 ?k20 ?a21 ?l21 ?c21 ?k21 ?a22 ?l22 ?c22 ?k22 ?a23 ?l23 ?c23 ?k23 ?a24 ?l24 ?c24 ?k24 ?a25 ?l25 ?c25 ?k25 ?m1 ?z1 ?z2 ?z3 ?z4 ?z5 ?z6 ?z7 ?z8 ?z9 ?z10 ?z11 ?z12 ?z13 ?z14 ?z15 ?z16 ?z17
    (case aC => first | k_is | rfl)
    (case xL => first | k_is | rfl)
    (case sa => first | k_is | rfl)
    (case ga => first | k_is | rfl)
    (case gg => first | k_is | rfl)
    (case nb => first | k_is | rfl)
    (case aI => first | k_is | rfl)
    (case tI => first | k_is | rfl)
    (case lI => first | k_is | rfl)
    (case cI => first | k_is | rfl)
    (case kI => first | k_is | rfl)
    (case kC => first | k_is | rfl)
    (case eC => first | k_is | rfl)
    (case tC => first | k_is | rfl)
    (case hC => first | k_is | rfl)
    (case iC => first | k_is | rfl)
    (case sC => first | k_is | rfl)
    (case vC => first | k_is | rfl)
    (case caC => first | k_is | rfl)
    (case spC => first | k_is | rfl)
    (case tkC => first | k_is | rfl)
    (case mrC => first | k_is | rfl)
    (case skC => first | k_is | rfl)
    (case aU => first | k_is | rfl)
    (case oU => first | k_is | rfl)
    (case b0 => first | k_is | rfl)
    (case o0 => first | k_is | rfl)
    (case b1 => first | k_is | rfl)
    (case o1 => first | k_is | rfl)
    (case b2 => first | k_is | rfl)
    (case o2 => first | k_is | rfl)
    (case b3 => first | k_is | rfl)
    (case o3 => first | k_is | rfl)
    (case b4 => first | k_is | rfl)
    (case o4 => first | k_is | rfl)
    (case b5 => first | k_is | rfl)
    (case o5 => first | k_is | rfl)
    (case b6 => first | k_is | rfl)
    (case o6 => first | k_is | rfl)
    (case b7 => first | k_is | rfl)
    (case o7 => first | k_is | rfl)
    (case b8 => first | k_is | rfl)
    (case o8 => first | k_is | rfl)
    (case b9 => first | k_is | rfl)
    (case o9 => first | k_is | rfl)
    (case a1 => k_is)
    (case l1 => k_is)
    (case c1 => k_is)
    (case k1 => k_is)
    (case a2 => k_is)
    (case l2 => k_is)
    (case c2 => k_is)
    (case k2 => k_is)
    (case a3 => k_is)
    (case l3 => k_is)
    (case c3 => k_is)
    (case k3 => k_is)
    (case a4 => k_is)
    (case l4 => k_is)
    (case c4 => k_is)
    (case k4 => k_is)
    (case a5 => k_is)
    (case l5 => k_is)
    (case c5 => k_is)
    (case k5 => k_is)
    (case a6 => k_is)
    (case l6 => k_is)
    (case c6 => k_is)
    (case k6 => k_is)
    (case a7 => k_is)
    (case l7 => k_is)
    (case c7 => k_is)
    (case k7 => k_is)
    (case a8 => k_is)
    (case l8 => k_is)
    (case c8 => k_is)
    (case k8 => k_is)
    (case a9 => k_is)
    (case l9 => k_is)
    (case c9 => k_is)
    (case k9 => k_is)
    (case a10 => k_is)
    (case l10 => k_is)
    (case c10 => k_is)
    (case k10 => k_is)
    (case a11 => k_is)
    (case l11 => k_is)
    (case c11 => k_is)
    (case k11 => k_is)
    (case a12 => k_is)
    (case l12 => k_is)
    (case c12 => k_is)
    (case k12 => k_is)
    (case a13 => k_is)
    (case l13 => k_is)
    (case c13 => k_is)
    (case k13 => k_is)
    (case a14 => k_is)
    (case l14 => k_is)
    (case c14 => k_is)
    (case k14 => k_is)
    (case a15 => k_is)
    (case l15 => k_is)
    (case c15 => k_is)
    (case k15 => k_is)
    (case a16 => k_is)
    (case l16 => k_is)
    (case c16 => k_is)
    (case k16 => k_is)
    (case a17 => k_is)
    (case l17 => k_is)
    (case c17 => k_is)
    (case k17 => k_is)
    (case a18 => k_is)
    (case l18 => k_is)
    (case c18 => k_is)
    (case k18 => k_is)
    (case a19 => k_is)
    (case l19 => k_is)
    (case c19 => k_is)
    (case k19 => k_is)
    (case a20 => k_is)
    (case l20 => k_is)
    (case c20 => k_is)
    (case k20 => k_is)
    (case a21 => k_is)
    (case l21 => k_is)
    (case c21 => k_is)
    (case k21 => k_is)
    (case a22 => k_is)
    (case l22 => k_is)
    (case c22 => k_is)
    (case k22 => k_is)
    (case a23 => k_is)
    (case l23 => k_is)
    (case c23 => k_is)
    (case k23 => k_is)
    (case a24 => k_is)
    (case l24 => k_is)
    (case c24 => k_is)
    (case k24 => k_is)
    (case a25 => k_is)
    (case l25 => k_is)
    (case c25 => k_is)
    (case k25 => k_is)
    (case m1 => k_is)
    (case z1 => k_is)
    (case z2 => k_is)
    (case z3 => k_is)
    (case z4 => k_is)
    (case z5 => k_is)
    (case z6 => k_is)
    (case z7 => k_is)
    (case z8 => k_is)
    (case z9 => k_is)
    (case z10 => k_is)
    (case z11 => k_is)
    (case z12 => k_is)
    (case z13 => k_is)
    (case z14 => k_is)
    (case z15 => k_is)
    (case z16 => k_is)
    (case z17 => k_is)
