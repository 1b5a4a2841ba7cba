import PyProof.Rows.All
import Wide.All
import OpenK.AllK
import Wide.FinOn
import HandS.ForMost
import HandS.ForExc
import HandS.IsInst
import HandS.Deep
import HandS.StrMore
import HandS.SetKeys
import HandS.TupAny
import HandS.Style
import HandS.Evl
import HandS.Walk
import HandS.Wide
import KE.GoesMore
import KE.GoesEnum
import HandS.Strs
import HandS.Sort
import PyProof.ReprLen
import PyProof.ReprRoads
import PyProof.Rows.RegStrFacts
import HandS.ExcInit
import PyProof.ExcBaseAll.IndexError
import PyProof.ExcBaseAll.LookupError
import HandS.WordsExc
import HandS.ExcField
import HandS.Set
import HandS.SetFor
import HandS.More
import HandS.Comp
import HandS.HotCalls
import HandS.ExcIs
import HandS.Words
import HandS.Codes
import KE.KExcIs
import HandS.ExcCtx
import HandS.DeepEq
import HandS.TupLe
import PySem.Challenge.RW_watchedrun_k03_parts_and_rows
set_option Elab.async false
set_option linter.all false
set_option maxRecDepth 100000
set_option maxHeartbeats 4000000
namespace Wr
open PySem PySem.Spec PyProof.Rows L2 Evl

/-! ### heaps with some addresses hidden -/
def hid (b : List Addr) (H : Hp) : Hp := fun a => if a ∈ b then none else H a
def Kn (b : List Addr) (H : Hp) : Prop := ∀ a ∈ b, H a ≠ none
theorem hid_ne {b : List Addr} {H : Hp} {a : Addr} (h : a ∉ b) : hid b H a = H a := if_neg h
theorem hid_some {b : List Addr} {H : Hp} {a : Addr} {o : HO} (h : hid b H a = some o) : a ∉ b ∧ H a = some o := by
  unfold hid at h
  by_cases e : a ∈ b
  · rw [if_pos e] at h
    cases h
  · rw [if_neg e] at h
    exact ⟨e, h⟩
theorem hid_le {b : List Addr} {H : Hp} : Ex (hid b H) H := fun _ _ h => (hid_some h).2
theorem hid_ex {b : List Addr} {H H' : Hp} (e : Ex H H') : Ex (hid b H) (hid b H') := fun a o h => by
  obtain ⟨h1, h2⟩ := hid_some h
  rw [hid_ne h1]
  exact e a o h2
theorem Kn.up {b : List Addr} {H H' : Hp} (k : Kn b H) (e : Ex H H') : Kn b H' := fun a ha h => by
  have := k a ha
  cases q : H a with
  | none => exact this q
  | some o =>
    rw [e a o q] at h
    cases h
theorem Kn.new {b : List Addr} {H : Hp} (k : Kn b H) {p : Addr} (hp : H p = none) : p ∉ b := fun e => k p e hp

/-! ### data whose tuples are known to have no dict of their own -/
def TN (K : PySem.W.Frag) (H : Hp) (a : Addr) : Prop := (∃ o u, H a = some (.frz o u) ∧ o.dict = none) ∨ ∃ o, K.lookup a = some o ∧ o.cls = .type "tuple" ∧ o.dict = none
theorem TN.ex {K : PySem.W.Frag} {H H' : Hp} {a : Addr} (e : Ex H H') (h : TN K H a) : TN K H' a := by
  rcases h with ⟨o, u, h1, h2⟩ | h
  · exact .inl ⟨o, u, e _ _ h1, h2⟩
  · exact .inr h
mutual
inductive Dd (K : PySem.W.Frag) (H : Hp) : V → PyData → Prop
  | non : Dd K H .non .none
  | bl (b : Bool) : Dd K H (.bl b) (.bool b)
  | int (i : Int) : Dd K H (.int i) (.int i)
  | str (x : Str) : Dd K H (.str x) (.str x)
  | lst {a : Addr} {xs : List V} {ds : List PyData} : SqL K H a xs → DdAll K H xs ds → Dd K H (.ref a) (.list ds)
  | tup {a : Addr} {xs : List V} {ds : List PyData} : SqT K H a xs → TN K H a → DdAll K H xs ds → Dd K H (.ref a) (.tuple ds)
inductive DdAll (K : PySem.W.Frag) (H : Hp) : List V → List PyData → Prop
  | nil : DdAll K H [] []
  | cons {v : V} {vs : List V} {d : PyData} {ds : List PyData} : Dd K H v d → DdAll K H vs ds → DdAll K H (v :: vs) (d :: ds)
end
mutual
theorem dd_dp {K : PySem.W.Frag} {H : Hp} : ∀ (d : PyData) (v : V), Dd K H v d → Dp K H v d
  | .none, _, h => by cases h; exact .non
  | .bool b, _, h => by cases h; exact .bl b
  | .int i, _, h => by cases h; exact .int i
  | .str x, _, h => by cases h; exact .str x
  | .list ds, _, h => by
    cases h with
    | lst hs ha => exact .lst hs (dds_dp ds _ ha)
  | .tuple ds, _, h => by
    cases h with
    | tup hs _ ha => exact .tup hs (dds_dp ds _ ha)
  | .dict _, _, h => by cases h
theorem dds_dp {K : PySem.W.Frag} {H : Hp} : ∀ (ds : List PyData) (vs : List V), DdAll K H vs ds → DpAll K H vs ds
  | [], _, h => by cases h; exact .nil
  | d :: ds, _, h => by
    cases h with
    | cons h1 h2 => exact .cons (dd_dp d _ h1) (dds_dp ds _ h2)
end
/-! ### data stay where the heap grows -/
mutual
theorem dp_ex {K : PySem.W.Frag} {H H' : Hp} (e : Ex H H') : ∀ (d : PyData) (v : V), Dd K H v d → Dd K H' v d
  | .none, _, h => by cases h; exact .non
  | .bool b, _, h => by cases h; exact .bl b
  | .int i, _, h => by cases h; exact .int i
  | .str x, _, h => by cases h; exact .str x
  | .list ds, _, h => by
    cases h with
    | lst hs ha => exact .lst (ex_l e hs) (dps_ex e ds _ ha)
  | .tuple ds, _, h => by
    cases h with
    | tup hs hn ha => exact .tup (ex_t e hs) (hn.ex e) (dps_ex e ds _ ha)
  | .dict _, _, h => by cases h
theorem dps_ex {K : PySem.W.Frag} {H H' : Hp} (e : Ex H H') : ∀ (ds : List PyData) (vs : List V), DdAll K H vs ds → DdAll K H' vs ds
  | [], _, h => by cases h; exact .nil
  | d :: ds, _, h => by
    cases h with
    | cons h1 h2 => exact .cons (dp_ex e d _ h1) (dps_ex e ds _ h2)
end
abbrev Dq (K : PySem.W.Frag) (b : List Addr) (H : Hp) (v : V) (d : PyData) : Prop := Dd K (hid b H) v d
abbrev DqAll (K : PySem.W.Frag) (b : List Addr) (H : Hp) (vs : List V) (ds : List PyData) : Prop := DdAll K (hid b H) vs ds
section
variable {K : PySem.W.Frag} {b : List Addr} {H H' H1 H2 : Hp} {v : V} {vs : List V} {d e : PyData} {ds : List PyData}
theorem Dq.up (h : Dq K b H v d) (e : Ex H H') : Dq K b H' v d := dp_ex (hid_ex e) d v h
theorem DqAll.up (h : DqAll K b H vs ds) (e : Ex H H') : DqAll K b H' vs ds := dps_ex (hid_ex e) ds vs h
theorem Dq.dd (h : Dq K b H v d) : Dd K H v d := dp_ex hid_le d v h
theorem Dq.dp (h : Dq K b H v d) : Dp K H v d := dd_dp d v h.dd
theorem DqAll.dd (h : DqAll K b H vs ds) : DdAll K H vs ds := dps_ex hid_le ds vs h
theorem dps_len : ∀ {vs : List V} {ds : List PyData} {H : Hp}, DdAll K H vs ds → vs.length = ds.length
  | _, [], _, h => by cases h; rfl
  | _, d :: ds, _, h => by
    cases h with
    | cons h1 h2 => rw [List.length_cons, List.length_cons, dps_len h2]
theorem dps_get : ∀ {vs : List V} {ds : List PyData} {H : Hp} {i : Nat} {d : PyData}, DdAll K H vs ds → ds[i]? = some d → ∃ v, vs[i]? = some v ∧ Dd K H v d
  | _, [], _, i, d, h, e => by simp at e
  | _, x :: ds, _, 0, d, h, e => by
    cases h with
    | cons h1 h2 =>
      have e1 : x = d := Option.some.inj e
      subst e1
      exact ⟨_, rfl, h1⟩
  | _, x :: ds, _, i + 1, d, h, e => by
    cases h with
    | cons h1 h2 =>
      obtain ⟨v, q1, q2⟩ := dps_get h2 (i := i) e
      exact ⟨v, q1, q2⟩
theorem dps_at : ∀ {vs : List V} {ds : List PyData} {H : Hp} {i : Nat} {v : V}, DdAll K H vs ds → vs[i]? = some v → ∃ d, ds[i]? = some d ∧ Dd K H v d
  | _, [], _, i, v, h, e => by cases h; simp at e
  | _, x :: ds, _, 0, v, h, e => by
    cases h with
    | cons h1 h2 =>
      have e1 := Option.some.inj e
      subst e1
      exact ⟨_, rfl, h1⟩
  | _, x :: ds, _, i + 1, v, h, e => by
    cases h with
    | cons h1 h2 =>
      obtain ⟨d, q1, q2⟩ := dps_at h2 (i := i) e
      exact ⟨d, q1, q2⟩
theorem dps_app : ∀ {vs ws : List V} {ds es : List PyData} {H : Hp}, DdAll K H vs ds → DdAll K H ws es → DdAll K H (vs ++ ws) (ds ++ es)
  | _, _, [], _, _, h, h' => by cases h; exact h'
  | _, _, x :: ds, _, _, h, h' => by
    cases h with
    | cons h1 h2 => exact .cons h1 (dps_app h2 h')
theorem dps_drop : ∀ {vs : List V} {ds : List PyData} {H : Hp} (n : Nat), DdAll K H vs ds → DdAll K H (vs.drop n) (ds.drop n)
  | _, _, _, 0, h => h
  | _, [], _, n + 1, h => by cases h; exact .nil
  | _, x :: ds, _, n + 1, h => by
    cases h with
    | cons h1 h2 => exact dps_drop n h2
theorem dps_take : ∀ {vs : List V} {ds : List PyData} {H : Hp} (n : Nat), DdAll K H vs ds → DdAll K H (vs.take n) (ds.take n)
  | _, _, _, 0, h => .nil
  | _, [], _, n + 1, h => by cases h; exact .nil
  | _, x :: ds, _, n + 1, h => by
    cases h with
    | cons h1 h2 => exact .cons h1 (dps_take n h2)
/-- texts are texts -/
theorem dps_strs : ∀ {vs : List V} {xs : List Str} {H : Hp}, DdAll K H vs (xs.map PyData.str) → vs = xs.map V.str
  | _, [], _, h => by cases h; rfl
  | _, x :: xs, _, h => by
    cases h with
    | cons h1 h2 =>
      cases h1
      rw [dps_strs h2]
      rfl
theorem strs_dps : ∀ (xs : List Str) {H : Hp}, DdAll K H (xs.map V.str) (xs.map PyData.str)
  | [], _ => .nil
  | x :: xs, _ => .cons (.str x) (strs_dps xs)
theorem dps_bls : ∀ {vs : List V} {xs : List Bool} {H : Hp}, DdAll K H vs (xs.map PyData.bool) → vs = xs.map V.bl
  | _, [], _, h => by cases h; rfl
  | _, x :: xs, _, h => by
    cases h with
    | cons h1 h2 =>
      cases h1
      rw [dps_bls h2]
      rfl
end
/-- a new object at p keeps what is hidden hidden -/
theorem hid_new {b : List Addr} {H : Hp} {p : Addr} {o : HO} (h : p ∉ b) : hid b (upd H p o) p = some o := by
  rw [hid_ne h, upd_same]
end Wr

set_option Elab.async false
set_option linter.all false
set_option maxRecDepth 100000
set_option maxHeartbeats 4000000
namespace Wr
open PySem PySem.Spec PyProof.Rows L2 Evl

/-! ### what evaluates to which datum -/
section
variable (K : PySem.W.Frag) (b : List Addr)
def ED (te : TE) (σ : L2.St) (H : Hp) (d : PyData) : Prop := ∀ H1, Ex H H1 → ∀ Q : VK, (∀ v H2, Ex H1 H2 → Dq K b H2 v d → Q v H2) → te σ H1 Q
def EA (ta : TA) (σ : L2.St) (H : Hp) (ds : List PyData) : Prop := ∀ H1, Ex H H1 → ∀ Q : List V → Hp → Prop, (∀ vs H2, Ex H1 H2 → DqAll K b H2 vs ds → Q vs H2) → ta σ H1 Q
def SR (ts : TS) (σ : L2.St) (H : Hp) (d : PyData) : Prop := ∀ H1, Ex H H1 → ∀ D : Ends, (∀ v H2, Ex H1 H2 → Dq K b H2 v d → D.rt v H2) → ts D σ H1
end
/-- a pure def: data in, a datum out, all that stood stands -/
def spP (K : PySem.W.Frag) (pre : List PyData → Prop) (f : List PyData → PyData) : Sp := fun vs H Q _ =>
  ∃ b ds, Kn b H ∧ DqAll K b H vs ds ∧ pre ds ∧ ∀ v H', Ex H H' → Dq K b H' v (f ds) → Q v H'
section
variable {K : PySem.W.Frag} {b : List Addr} {σ : L2.St} {H H' : Hp} {ta tb tc te : TE} {t : TA} {tt : TT} {ts t1 t2 : TS} {d e : PyData} {ds : List PyData} {v : V}
theorem ED.mono (x : Ex H H') (h : ED K b te σ H d) : ED K b te σ H' d := fun H1 a Q q => h H1 (x.trans a) Q q
theorem EA.mono (x : Ex H H') (h : EA K b t σ H ds) : EA K b t σ H' ds := fun H1 a Q q => h H1 (x.trans a) Q q
theorem SR.mono (x : Ex H H') (h : SR K b ts σ H d) : SR K b ts σ H' d := fun H1 a Q q => h H1 (x.trans a) Q q
theorem ED.to (h : ED K b te σ H d) (x : d = e) : ED K b te σ H e := x ▸ h
theorem SR.to (h : SR K b ts σ H d) (x : d = e) : SR K b ts σ H e := x ▸ h
theorem ed_var {i : Nat} (h : σ[i]? = some (some v)) (hd : Dq K b H v d) : ED K b (tVar i) σ H d := fun H1 x _ q => ⟨v, h, q v H1 (Ex.refl H1) (hd.up x)⟩
theorem ed_c (hd : Dq K b H v d) : ED K b (tC v) σ H d := fun H1 x _ q => q v H1 (Ex.refl H1) (hd.up x)
theorem ed_int {i : Int} : ED K b (tC (.int i)) σ H (.int i) := ed_c (.int i)
theorem ed_str {x : Str} : ED K b (tC (.str x)) σ H (.str x) := ed_c (.str x)
theorem ed_bl {x : Bool} : ED K b (tC (.bl x)) σ H (.bool x) := ed_c (.bl x)
theorem ed_non : ED K b (tC .non) σ H .none := ed_c .non
/-- two operands, then an operation on data -/
theorem ed_op {r : R2} {z : PyData} (ha : ED K b ta σ H d) (hb : ED K b tb σ H e) (hr : ∀ H1 x y (Q : VK), Ex H H1 → Dq K b H1 x d → Dq K b H1 y e → (∀ v H2, Ex H1 H2 → Dq K b H2 v z → Q v H2) → r x y H1 Q) : ED K b (tOp r ta tb) σ H z :=
  fun H1 x1 Q q => ha H1 x1 _ fun x H2 x2 hx => hb H2 (x1.trans x2) _ fun y H3 x3 hy =>
    hr H3 x y Q ((x1.trans x2).trans x3) (hx.up x3) hy fun v H4 x4 hv => q v H4 ((x2.trans x3).trans x4) hv
theorem ed_eq (ha : ED K b ta σ H d) (hb : ED K b tb σ H e) (sd : SeqAt.shaped d = true) (se : SeqAt.shaped e = true) : ED K b (tOp (rEqD K) ta tb) σ H (.bool (PyData.eqv d e)) :=
  ed_op ha hb fun H1 x y Q _ hx hy q => ⟨d, e, hx.dp, hy.dp, sd, se, q _ H1 (Ex.refl H1) (.bl _)⟩
theorem ed_ne (ha : ED K b ta σ H d) (hb : ED K b tb σ H e) (sd : SeqAt.shaped d = true) (se : SeqAt.shaped e = true) : ED K b (tOp (rNeD K) ta tb) σ H (.bool (!PyData.eqv d e)) :=
  ed_op ha hb fun H1 x y Q _ hx hy q => ⟨d, e, hx.dp, hy.dp, sd, se, q _ H1 (Ex.refl H1) (.bl _)⟩
theorem dq_int {i : Int} (h : Dq K b H v (.int i)) : v = .int i := by cases h; rfl
theorem dq_bl {i : Bool} (h : Dq K b H v (.bool i)) : v = .bl i := by cases h; rfl
theorem dq_str {i : Str} (h : Dq K b H v (.str i)) : v = .str i := by cases h; rfl
theorem ed_I0 {g : Int → Int → V} {i j : Int} {z : PyData} (ha : ED K b ta σ H (.int i)) (hb : ED K b tb σ H (.int j)) (hz : ∀ H', Dq K b H' (g i j) z) : ED K b (tOp (rI0 g) ta tb) σ H z :=
  ed_op ha hb fun H1 x y Q _ hx hy q => ⟨i, j, dq_int hx, dq_int hy, q _ H1 (Ex.refl H1) (hz _)⟩
theorem ed_I {C : Int → Int → Prop} {g : Int → Int → V} {i j : Int} {z : PyData} (ha : ED K b ta σ H (.int i)) (hb : ED K b tb σ H (.int j)) (hc : C i j) (hz : ∀ H', Dq K b H' (g i j) z) : ED K b (tOp (rI C g) ta tb) σ H z :=
  ed_op ha hb fun H1 x y Q _ hx hy q => ⟨i, j, dq_int hx, dq_int hy, hc, q _ H1 (Ex.refl H1) (hz _)⟩
theorem ed_lt {i j : Int} (ha : ED K b ta σ H (.int i)) (hb : ED K b tb σ H (.int j)) : ED K b (tOp (rI0 fun i j => .bl (decide (i < j))) ta tb) σ H (.bool (decide (i < j))) := ed_I0 ha hb fun _ => .bl _
theorem ed_le {i j : Int} (ha : ED K b ta σ H (.int i)) (hb : ED K b tb σ H (.int j)) : ED K b (tOp (rI0 fun i j => .bl (decide (i ≤ j))) ta tb) σ H (.bool (decide (i ≤ j))) := ed_I0 ha hb fun _ => .bl _
theorem ed_gt {i j : Int} (ha : ED K b ta σ H (.int i)) (hb : ED K b tb σ H (.int j)) : ED K b (tOp (rI0 fun i j => .bl (decide (j < i))) ta tb) σ H (.bool (decide (j < i))) := ed_I0 ha hb fun _ => .bl _
theorem ed_ge {i j : Int} (ha : ED K b ta σ H (.int i)) (hb : ED K b tb σ H (.int j)) : ED K b (tOp (rI0 fun i j => .bl (decide (j ≤ i))) ta tb) σ H (.bool (decide (j ≤ i))) := ed_I0 ha hb fun _ => .bl _
theorem ed_add {i j : Int} (ha : ED K b ta σ H (.int i)) (hb : ED K b tb σ H (.int j)) : ED K b (tOp (rI0 fun i j => .int (i + j)) ta tb) σ H (.int (i + j)) := ed_I0 ha hb fun _ => .int _
theorem ed_sub {i j : Int} (ha : ED K b ta σ H (.int i)) (hb : ED K b tb σ H (.int j)) : ED K b (tOp (rI0 fun i j => .int (i - j)) ta tb) σ H (.int (i - j)) := ed_I0 ha hb fun _ => .int _
theorem ed_neg {i : Int} (ha : ED K b ta σ H (.int i)) : ED K b (tUn (rU fun i => .int (-i)) ta) σ H (.int (-i)) := fun H1 x1 Q q =>
  ha H1 x1 _ fun x H2 x2 hx => ⟨i, dq_int hx, q _ H2 x2 (.int _)⟩
/-- a chain of two comparisons of ints -/
theorem ed_chain {g g' : Int → Int → Bool} {i j k : Int} (ha : ED K b ta σ H (.int i)) (hb : ED K b tb σ H (.int j)) (hc : ED K b tc σ H (.int k)) :
    ED K b (tChain (rI0 fun i j => .bl (g i j)) (rI0 fun i j => .bl (g' i j)) ta tb tc) σ H (.bool (g i j && g' j k)) := fun H1 x1 Q q =>
  ha H1 x1 _ fun x H2 x2 hx => hb H2 (x1.trans x2) _ fun y H3 x3 hy => ⟨i, j, dq_int hx, dq_int hy, g i j, rfl, by
    cases hg : g i j with
    | false =>
      rw [if_neg Bool.false_ne_true]
      rw [hg] at q
      exact q _ H3 (x2.trans x3) (.bl _)
    | true =>
      rw [if_pos rfl]
      rw [hg] at q
      exact hc H3 ((x1.trans x2).trans x3) _ fun z H4 x4 hz => ⟨j, k, dq_int hy, dq_int hz, q _ H4 ((x2.trans x3).trans x4) (.bl _)⟩⟩
theorem ed_and {c : Bool} (ha : ED K b ta σ H (.bool c)) (hb : c = true → ED K b tb σ H d) : ED K b (tAndV ta tb) σ H (if c = true then d else .bool false) := fun H1 x1 Q q =>
  ha H1 x1 _ fun x H2 x2 hx => ⟨c, dq_bl hx, by
    cases c with
    | false =>
      rw [if_neg Bool.false_ne_true]
      rw [if_neg Bool.false_ne_true] at q
      exact q _ H2 x2 (.bl _)
    | true =>
      rw [if_pos rfl]
      rw [if_pos rfl] at q
      exact hb rfl H2 (x1.trans x2) _ fun z H4 x4 hz => q _ H4 (x2.trans x4) hz⟩
theorem ed_or {c : Bool} (ha : ED K b ta σ H (.bool c)) (hb : c = false → ED K b tb σ H d) : ED K b (tOrV ta tb) σ H (if c = true then .bool true else d) := fun H1 x1 Q q =>
  ha H1 x1 _ fun x H2 x2 hx => ⟨c, dq_bl hx, by
    cases c with
    | true =>
      rw [if_pos rfl]
      rw [if_pos rfl] at q
      exact q _ H2 x2 (.bl _)
    | false =>
      rw [if_neg Bool.false_ne_true]
      rw [if_neg Bool.false_ne_true] at q
      exact hb rfl H2 (x1.trans x2) _ fun z H4 x4 hz => q _ H4 (x2.trans x4) hz⟩
/-- and, or of truths -/
theorem ed_andB {c k : Bool} (ha : ED K b ta σ H (.bool c)) (hb : c = true → ED K b tb σ H (.bool k)) : ED K b (tAndV ta tb) σ H (.bool (c && k)) := (ed_and ha hb).to (by cases c <;> rfl)
theorem ed_orB {c k : Bool} (ha : ED K b ta σ H (.bool c)) (hb : c = false → ED K b tb σ H (.bool k)) : ED K b (tOrV ta tb) σ H (.bool (c || k)) := (ed_or ha hb).to (by cases c <;> rfl)
theorem ed_not {c : Bool} (ha : ED K b ta σ H (.bool c)) : ED K b (tNotV ta) σ H (.bool (!c)) := fun H1 x1 Q q =>
  ha H1 x1 _ fun x H2 x2 hx => ⟨c, dq_bl hx, q _ H2 x2 (.bl _)⟩
theorem et_t {c : Bool} (h : ED K b te σ H (.bool c)) : EvT (tTest te) σ H c := fun H1 x Q q => h H1 x _ fun v H2 x2 hv => ⟨c, dq_bl hv, q H2 x2⟩
theorem et_b {c : Bool} (h : ED K b te σ H (.bool c)) : EvT (tB te) σ H c := fun H1 x Q q => h H1 x _ fun v H2 x2 hv => ⟨c, dq_bl hv, q H2 x2⟩
theorem ed_if {c : Bool} (hc : EvT tt σ H c) (ha : c = true → ED K b ta σ H d) (hb : c = false → ED K b tb σ H e) : ED K b (tIf tt ta tb) σ H (if c = true then d else e) := fun H1 x1 Q q =>
  hc H1 x1 _ fun H2 x2 => by
    cases c with
    | true =>
      rw [if_pos rfl]
      rw [if_pos rfl] at q
      exact ha rfl H2 (x1.trans x2) _ fun z H4 x4 hz => q _ H4 (x2.trans x4) hz
    | false =>
      rw [if_neg Bool.false_ne_true]
      rw [if_neg Bool.false_ne_true] at q
      exact hb rfl H2 (x1.trans x2) _ fun z H4 x4 hz => q _ H4 (x2.trans x4) hz
/-! ### arguments, calls -/
theorem ea_nil : EA K b tNil σ H [] := fun H1 x Q q => q [] H1 (Ex.refl H1) .nil
theorem ea_cons (ha : ED K b ta σ H d) (hr : EA K b t σ H ds) : EA K b (tCons ta t) σ H (d :: ds) := fun H1 x1 Q q =>
  ha H1 x1 _ fun x H2 x2 hx => hr H2 (x1.trans x2) _ fun xs H3 x3 hxs => q _ H3 (x2.trans x3) (.cons (hx.up x3) hxs)
theorem ed_call {pre : List PyData → Prop} {f : List PyData → PyData} {E : XK} (kn : Kn b H) (ha : EA K b t σ H ds) (hp : pre ds) : ED K b (tCall (spP K pre f) [] E t) σ H (f ds) := fun H1 x1 Q q =>
  ha H1 x1 _ fun vs H2 x2 hvs => ⟨b, ds, kn.up (x1.trans x2), by rw [List.append_nil]; exact hvs, hp, fun v H3 x3 hv => q v H3 (x2.trans x3) hv⟩
/-! ### blocks -/
theorem sr_ret (h : ED K b te σ H d) : SR K b (tRet te) σ H d := fun H1 x D q => h H1 x _ fun v H2 x2 hv => q v H2 x2 hv
theorem sr_if {c : Bool} (hc : EvT tt σ H c) (h1 : c = true → SR K b t1 σ H d) (h2 : c = false → SR K b t2 σ H e) : SR K b (tSeq (tIfS tt t1 tNext) t2) σ H (if c = true then d else e) := fun H1 x1 D q =>
  hc H1 x1 _ fun H2 x2 => by
    cases c with
    | true =>
      rw [if_pos rfl]
      rw [if_pos rfl] at q
      exact h1 rfl H2 (x1.trans x2) _ fun z H4 x4 hz => q _ H4 (x2.trans x4) hz
    | false =>
      rw [if_neg Bool.false_ne_true]
      rw [if_neg Bool.false_ne_true] at q
      exact h2 rfl H2 (x1.trans x2) _ fun z H4 x4 hz => q _ H4 (x2.trans x4) hz
theorem sr_set {i : Nat} (h : ED K b te σ H e) (k : ∀ v H', Ex H H' → Dq K b H' v e → SR K b ts (σ.set i (some v)) H' d) : SR K b (tSeq (tAsg te (gName i)) ts) σ H d := fun H1 x1 D q =>
  h H1 x1 _ fun v H2 x2 hv => k v H2 (x1.trans x2) hv H2 (Ex.refl H2) D fun z H4 x4 hz => q _ H4 (x2.trans x4) hz
/-- the def's own end -/
theorem SR.fin {D : Ends} (h : SR K b ts σ H d) (q : ∀ v H', Ex H H' → Dq K b H' v d → D.rt v H') : ts D σ H := h H (Ex.refl H) D q
end
/-! ### kinds -/
def dTy : PyData → String
  | .none => "NoneType"
  | .bool _ => "bool"
  | .int _ => "int"
  | .str _ => "str"
  | .list _ => "list"
  | .tuple _ => "tuple"
  | .dict _ => "dict"
def tyIs (t T : String) : Bool := t == T || (t == "bool" && T == "int")
def isD (T : String) (d : PyData) : Bool := tyIs (dTy d) T
theorem dp_ty {K : PySem.W.Frag} {H : Hp} {v : V} {d : PyData} (h : Dp K H v d) : TyX K H v (.type (dTy d)) := by
  cases h with
  | non => exact .base .non
  | bl b => exact .base (.bl b)
  | int i => exact .base (.int i)
  | str x => exact .base (.str x)
  | lst hs _ =>
    rcases hs with (h | ⟨o, h⟩) | ⟨o, _, _, h1, h2, _⟩
    · exact .base (.lst h)
    · exact .base (.frz h)
    · exact .kList h1 h2
  | tup hs _ =>
    rcases hs with (h | ⟨o, h⟩) | ⟨o, _, _, h1, h2, _⟩
    · exact .base (.tup h)
    · exact .fTuple h
    · exact .kTuple h1 h2
def KindT (T : String) : Prop := T = "int" ∨ T = "bool" ∨ T = "str" ∨ T = "tuple" ∨ T = "list"
theorem kit_all : (["NoneType", "bool", "int", "str", "list", "tuple"].all fun t => ["int", "bool", "str", "tuple", "list"].all fun T => decide (kitB t T = some (tyIs t T))) = true := by decide +kernel
theorem kit_at {t T : String} (ht : t ∈ ["NoneType", "bool", "int", "str", "list", "tuple"]) (hT : T ∈ ["int", "bool", "str", "tuple", "list"]) : kitB t T = some (tyIs t T) :=
  of_decide_eq_true (List.all_eq_true.mp (List.all_eq_true.mp kit_all t ht) T hT)
theorem dp_kit {K : PySem.W.Frag} {H : Hp} {v : V} {d : PyData} (h : Dp K H v d) {T : String} (hT : KindT T) : PySem.W.kitOne K (.type (dTy d)) (.type T) = some (isD T d) := by
  refine kit_ty (kit_at ?_ ?_)
  · cases h <;> simp [dTy]
  · rcases hT with rfl | rfl | rfl | rfl | rfl <;> simp
section
variable {K : PySem.W.Frag} {b : List Addr} {σ : L2.St} {H H' : Hp} {ta tb : TE} {d e : PyData} {ds : List PyData} {v : V}
theorem ed_isi {T : String} (hT : KindT T) (ha : ED K b ta σ H d) : ED K b (tCB (rIsi K) (tCons ta (tCons (tC (.ty T)) tNil))) σ H (.bool (isD T d)) := fun H1 x1 Q q =>
  ha H1 x1 _ fun x H2 x2 hx => ⟨x, .ty T, .type (dTy d), .type T, isD T d, rfl, .ty T, dp_ty hx.dp, dp_kit hx.dp hT, q _ H2 x2 (.bl _)⟩
/-! ### len -/
def lenD : PyData → Nat
  | .str x => x.length
  | .list xs => xs.length
  | .tuple xs => xs.length
  | _ => 0
def rLen (K : PySem.W.Frag) : List V → Hp → VK → Prop := fun xs H Q => ∃ x n, xs = [x] ∧ LenV K x H n ∧ Q (.int n) H
theorem call_lenD1 {X : Cx} : CallR X (.builtin "len") (rLen X.K) := call_len
theorem ed_len (ha : ED K b ta σ H d) (hk : isD "str" d = true ∨ isD "list" d = true ∨ isD "tuple" d = true) (hs : ∀ x, d = .str x → x.length ≤ sizeLine) : ED K b (tCB (rLen K) (tCons ta tNil)) σ H (.int (lenD d)) := fun H1 x1 Q q =>
  ha H1 x1 _ fun x H2 x2 hx => by
    refine ⟨x, lenD d, rfl, ?_, q _ H2 x2 (.int _)⟩
    have hx' := hx.dd
    cases hx' with
    | str y => exact ⟨hs y rfl, rfl⟩
    | lst h1 h2 => exact Or.inl ⟨_, h1, (dps_len h2).symm⟩
    | tup h1 _ h2 => exact Or.inr ⟨_, h1, (dps_len h2).symm⟩
    | non => rcases hk with h | h | h <;> exact absurd h (by show ¬ tyIs "NoneType" _ = true; decide)
    | bl c => rcases hk with h | h | h <;> exact absurd h (by show ¬ tyIs "bool" _ = true; decide)
    | int c => rcases hk with h | h | h <;> exact absurd h (by show ¬ tyIs "int" _ = true; decide)
/-! ### items -/
theorem dps_atI {H : Hp} {vs : List V} {ds : List PyData} {i : Int} {d : PyData} (h : DdAll K H vs ds) (hi : atI ds i = some d) : ∃ v, atI vs i = some v ∧ Dd K H v d := by
  unfold atI at hi ⊢
  rw [dps_len h]
  cases hj : ixN ds.length i with
  | none => rw [hj] at hi; cases hi
  | some j =>
    rw [hj] at hi
    exact dps_get h (i := j) hi
theorem ed_ixT {i : Int} {z : PyData} (ha : ED K b ta σ H (.tuple ds)) (hb : ED K b tb σ H (.int i)) (hi : atI ds i = some z) : ED K b (tOp (rIxT K) ta tb) σ H z :=
  ed_op ha hb fun H1 x y Q _ hx hy q => by
    cases hx with
    | tup h1 _ h2 =>
      obtain ⟨v, q1, q2⟩ := dps_atI h2 hi
      exact ⟨_, _, i, v, rfl, dq_int hy, ex_t hid_le h1, q1, q v H1 (Ex.refl H1) q2⟩
theorem ed_ixL {i : Int} {z : PyData} (ha : ED K b ta σ H (.list ds)) (hb : ED K b tb σ H (.int i)) (hi : atI ds i = some z) : ED K b (tOp (rIxL K) ta tb) σ H z :=
  ed_op ha hb fun H1 x y Q _ hx hy q => by
    cases hx with
    | lst h1 h2 =>
      obtain ⟨v, q1, q2⟩ := dps_atI h2 hi
      exact ⟨_, _, i, v, rfl, dq_int hy, ex_l hid_le h1, q1, q v H1 (Ex.refl H1) q2⟩
/-! ### in -/
def rInT (K : PySem.W.Frag) (neg : Bool) : R2 := fun x y H Q => ∃ d ds, Dp K H x d ∧ Dp K H y (.tuple ds) ∧ SeqAt.shaped d = true ∧ SeqAt.shaped (.tuple ds) = true ∧ Q (.bl (if neg = true then !ds.any (fun z => PyData.eqv z d) else ds.any fun z => PyData.eqv z d)) H
theorem op_inT {X : Cx} (hu : X.A.units + 65 < cLine) : OpR X (compareOp .In) (rInT X.K false) := by
  intro pins s σ H x y v u Q I rx ry ⟨d, ds, hd, he, sd, se, q⟩
  obtain ⟨as, r1⟩ := Dp.reads I d x v hd rx
  obtain ⟨bs, r2⟩ := Dp.reads I (.tuple ds) y u he ry
  exact SeqAt.in_tuple_reads r2 r1 (SeqAt.canLay_of_shaped se) (SeqAt.canLay_of_shaped sd) (room_in_shaped sd hu) ⟨.bl _, H, I, rfl, q⟩
theorem op_notInT {X : Cx} (hu : X.A.units + 65 < cLine) : OpR X (compareOp .NotIn) (rInT X.K true) := by
  intro pins s σ H x y v u Q I rx ry ⟨d, ds, hd, he, sd, se, q⟩
  obtain ⟨as, r1⟩ := Dp.reads I d x v hd rx
  obtain ⟨bs, r2⟩ := Dp.reads I (.tuple ds) y u he ry
  exact SeqAt.notIn_tuple_reads r2 r1 (SeqAt.canLay_of_shaped se) (SeqAt.canLay_of_shaped sd) (room_in_shaped sd hu) ⟨.bl _, H, I, rfl, q⟩
def inD (d : PyData) (ds : List PyData) : Bool := ds.any fun z => PyData.eqv z d
theorem ed_inT (ha : ED K b ta σ H d) (hb : ED K b tb σ H (.tuple ds)) (sd : SeqAt.shaped d = true) (se : SeqAt.shaped (.tuple ds) = true) : ED K b (tOp (rInT K false) ta tb) σ H (.bool (inD d ds)) :=
  ed_op ha hb fun H1 x y Q _ hx hy q => ⟨d, ds, hx.dp, hy.dp, sd, se, q _ H1 (Ex.refl H1) (.bl _)⟩
theorem ed_inL (ha : ED K b ta σ H d) (hb : ED K b tb σ H (.list ds)) (sd : SeqAt.shaped d = true) (se : SeqAt.shaped (.list ds) = true) : ED K b (tOp (rInD K) ta tb) σ H (.bool (inD d ds)) :=
  ed_op ha hb fun H1 x y Q _ hx hy q => ⟨d, ds, hx.dp, hy.dp, sd, se, q _ H1 (Ex.refl H1) (.bl _)⟩
theorem ed_ninL (ha : ED K b ta σ H d) (hb : ED K b tb σ H (.list ds)) (sd : SeqAt.shaped d = true) (se : SeqAt.shaped (.list ds) = true) : ED K b (tOp (rNotInD K) ta tb) σ H (.bool (!inD d ds)) :=
  ed_op ha hb fun H1 x y Q _ hx hy q => ⟨d, ds, hx.dp, hy.dp, sd, se, q _ H1 (Ex.refl H1) (.bl _)⟩
/-! ### new lists and tuples -/
theorem ed_lst {t : TA} (kn : Kn b H) (ha : EA K b t σ H ds) (hl : ds.length ≤ sizeLine) : ED K b (tLst t) σ H (.list ds) := fun H1 x1 Q q =>
  ha H1 x1 _ fun vs H2 x2 hvs => ⟨by rw [dps_len hvs]; exact hl, fun p hp => q _ _ (x2.trans (Ex.new hp))
    (.lst (.inl (.inl (hid_new ((kn.up (x1.trans x2)).new hp)))) (hvs.up (Ex.new hp)))⟩
/-- a tuple display, its object known -/
def tTupF (t : TA) : TE := fun σ H Q => t σ H fun xs H1 => xs.length ≤ sizeLine ∧ ∀ p o, H1 p = none → o.dict = none → Q (.ref p) (upd H1 p (.frz o (.tup xs)))
theorem pe_tupF {X : Cx} {es : List Expr} {t : TA} {pos : Pos} {x1} (h : PA X es t) : PE X (.Tuple es x1 pos) (tTupF t) := by
  refine ⟨fun pins s σ H Q I hq => ?_⟩
  refine wpAny_Tuple_spliced (thn (h.run pos pins s σ H _ I hq) fun us s1 ⟨xs, H1, I1, r, z, q⟩ => ⟨by rw [← r.length]; exact z, ?_⟩)
  have hf : H1 s1.heap.objs.size = none := I1.hok.fresh (Nat.le_refl _)
  refine ⟨.ref s1.heap.objs.size, upd H1 s1.heap.objs.size (.frz { cls := .type "tuple", data := .seq us.toArray } (.tup xs)),
    I1.laid (t' := s1.toks) (fun b u e => Heap.get?_push_of_some _ e) (Nat.le_refl _) ?_, rfl, q _ _ hf rfl⟩
  exact ⟨Heap.get?_push_size _ rfl, z, us, r, ⟨_, Heap.get?_push_size _ rfl, rfl, _, rfl⟩⟩
theorem ed_tup {t : TA} (kn : Kn b H) (ha : EA K b t σ H ds) (hl : ds.length ≤ sizeLine) : ED K b (tTupF t) σ H (.tuple ds) := fun H1 x1 Q q =>
  ha H1 x1 _ fun vs H2 x2 hvs => ⟨by rw [dps_len hvs]; exact hl, fun p o hp ho => by
    have e := hid_new (o := HO.frz o (.tup vs)) (H := H2) ((kn.up (x1.trans x2)).new hp)
    exact q _ _ (x2.trans (Ex.new hp)) (.tup (.inl (.inr ⟨_, e⟩)) (.inl ⟨_, _, e, ho⟩) (hvs.up (Ex.new hp)))⟩
/-! ### all([..]) -/
theorem ed_all {bs : List Bool} (ha : ED K b ta σ H (.list (bs.map PyData.bool))) : ED K b (tCB (rAll K) (tCons ta tNil)) σ H (.bool (bs.all id)) := fun H1 x1 Q q =>
  ha H1 x1 _ fun x H2 x2 hx => by
    have hx' := hx.dd
    cases hx' with
    | lst h1 h2 =>
      rw [dps_bls h2] at h1
      exact ⟨_, bs, rfl, h1, q _ H2 x2 (.bl _)⟩
end
end Wr

set_option Elab.async false
set_option linter.all false
set_option maxRecDepth 100000
set_option maxHeartbeats 4000000
namespace Wr
open PySem PySem.Spec PyProof.Rows L2 Evl

/-! ### enumerate(tuple) -/
theorem enum_new1 {v : Value} {o : Obj} {H : Heap → Prop} (B : Begins v o H) :
    Meets (Builtin.«enumerate.__new__» ⟨[.type "enumerate", v], []⟩) (fun _ R s => H s.heap ∧
      R (.ok (.ret (.ref (s.heap.push o).objs.size)))
        { s with heap := (s.heap.push o).push { cls := .type "enumerate", data := .fields #[.none, .bool false, .ref s.heap.objs.size, rawInt 0, .none, .none] } }) :=
  .of_wp fun prog w A R s h => by
    obtain ⟨hp, g, d, tk, os⟩ := s
    obtain ⟨h1, h⟩ := h
    have hsub := sub_enumerate
    have q1 : ∀ {A' : Around} {E : Value → Shared → Prop} {Q : Value → Shared → Prop}, Q (.ref hp.objs.size) ⟨hp.push o, g, d, tk, os⟩ →
        wpAny (model prog w) A' (pyIter v) Q E ⟨hp, g, d, tk, os⟩ := fun q => B.iter prog w _ _ ⟨hp, g, d, tk, os⟩ _ h1 q
    wp_walk using q1
    refine wpAny_stack_any fun st => wpAny_pure ?_
    split
    · rename_i c _ _ _ _ _
      cases (c == Value.type "enumerate") <;> (wp_walk using q1; exact ⟨_, rfl, h⟩)
    · wp_walk using q1
      exact ⟨_, rfl, h⟩
section
variable {prog : Program} {w : World} {A : Around} {E : Value → Shared → Prop} {s : Shared}
theorem enum_call1 {v : Value} {o : Obj} {H : Heap → Prop} {Q : Value → Shared → Prop} (B : Begins v o H) (h1 : H s.heap)
    (h : ∀ h', IsEnum h' (s.heap.objs.size + 1) s.heap.objs.size 0 .none → h'.get? s.heap.objs.size = some o →
      (∀ b o, s.heap.get? b = some o → h'.get? b = some o) → Q (.ref (s.heap.objs.size + 1)) { s with heap := h' }) :
    wpAny (model prog w) A (call (.type "enumerate") [v]) Q E s := by
  refine callType_new F.called_enumerate (by decide) (F.typeCall_enumerate_1 _) (F.newCall_enumerate_1 _) (fun obj => F.args_object_init_2 obj _)
    F.entry_enumerate_new (enum_new1 B) ⟨h1, ?_⟩
  have hz : (s.heap.push o).objs.size = s.heap.objs.size + 1 := Heap.size_push ..
  show _ ∧ _
  rw [hz]
  have he : IsEnum ((s.heap.push o).push { cls := .type "enumerate", data := .fields #[.none, .bool false, .ref s.heap.objs.size, rawInt 0, .none, .none] })
      (s.heap.objs.size + 1) s.heap.objs.size 0 .none := by
    have g := Heap.get?_push_size (s.heap.push o) (o := { cls := .type "enumerate", data := .fields #[.none, .bool false, .ref s.heap.objs.size, rawInt 0, .none, .none] }) rfl
    rw [hz] at g
    exact g
  exact ⟨⟨_, he, rfl⟩, h _ he (Heap.get?_push_of_some _ (Heap.get?_push_size _ B.free)) fun b o x => Heap.get?_push_of_some _ (Heap.get?_push_of_some _ x)⟩
end
/-- the tuple at a, each item with its number in a new pair -/
def Itet (K : PySem.W.Frag) (a : Addr) : It where
  go := fun i H => ∃ (xs : List V) (x : V), SqT K H a xs ∧ xs[i]? = some x
  yld := fun i H v H' => ∃ T x, v = .ref T ∧ H T = none ∧ H' = upd H T (.tup [.int (i : Nat), x]) ∧ ∀ xs, SqT K H a xs → xs[i]? = some x
  stop := fun i H => ∃ xs : List V, SqT K H a xs ∧ xs.length = i
theorem turn_enumT {P : Program} {w : World} {K : PySem.W.Frag} {elts : List Expr} {kk : Nat} {tpos : Pos} (a e it : Addr) (hne : e ≠ it) (hat : a ≠ it) (hea : e ≠ a) :
    Turn P w K (.Tuple elts kk tpos) (Itet K a) [e, it] e (fun i h => (∃ old, IsEnum h e it ((i : Nat) : Int) old) ∧ h.IsTupleIter it a i) where
  mem := by simp
  obj := fun i h st b hb => by
    obtain ⟨⟨old, he⟩, ⟨o, ho, hc, hd⟩⟩ := st
    rcases (show b = e ∨ b = it by simpa using hb) with z | z
    · subst z
      exact ⟨_, he, fun v q => nomatch q⟩
    · subst z
      exact ⟨o, ho, fun v q => by rw [hd] at q; cases q⟩
  keep := fun i h h' st k => by
    obtain ⟨⟨old, he⟩, hi⟩ := st
    exact ⟨⟨old, k e (by simp) _ he⟩, hi.at fun o q => k it (by simp) o q⟩
  item := by
    intro X hP hw hK hc i pins s σ H E I hf st hg
    subst hP hw hK
    obtain ⟨⟨old, he⟩, hit⟩ := st
    obtain ⟨xs, x, hq, hx⟩ := hg
    obtain ⟨its, rv, p, hz⟩ := I.tuple hq
    obtain ⟨u, hu, ru⟩ := rv.get hx
    have hel : e < s.heap.objs.size := Heap.lt_size he
    have hil : it < s.heap.objs.size := by
      obtain ⟨_, q, _⟩ := hit
      exact Heap.lt_size q
    have hd : (X.A.in1).handled = none := I.ok.hd hc
    have hlt : i < its.toArray.size := by
      have := (List.getElem?_eq_some_iff.mp hu).1
      simpa using this
    refine wpAny_pyNext_enum_itemD (Draws.tuple hd it a hat its.toArray) he (i := i) ⟨hit, p⟩ hlt hne (by simp [hne, hea]) fun y h' tk hy ho st' hT hsz hk => ?_
    have ey : y = u := by
      have : its.toArray[i]? = some u := by simpa using hu
      rw [this] at hy
      exact (Option.some.inj hy).symm
    subst ey
    refine ⟨_, rfl, wpAny_letOwnedTupleGo_enum (s := { s with heap := h', toks := tk + 1 }) ho fun h'' he' sb => ?_⟩
    have hT2 : h''.get? s.heap.objs.size = some { cls := .type "tuple", data := .seq #[.int i tk, y] } := (sb.2 _ (Nat.ne_of_gt hel)).trans hT
    have new : ObjOk X.prog X.w (upd H s.heap.objs.size (.tup [.int (i : Nat), x])) h'' s.heap.objs.size (.tup [.int (i : Nat), x]) :=
      ⟨by show 2 ≤ sizeLine; decide, [.int i tk, y], .cons ⟨_, rfl⟩ (.cons ru .nil), ⟨_, hT2, rfl, _, rfl⟩⟩
    have I1 : Inv X pins σ (upd H s.heap.objs.size (.tup [.int (i : Nat), x])) { s with heap := h'', toks := tk + 1 } := by
      refine I.turnedNew (ch := [e, it]) (fun b ob hb q => ?_) hf (Nat.le_refl _) new
      have h1 : b ≠ e := fun z => hb (by simp [z])
      have h2 : b ≠ it := fun z => hb (by simp [z])
      exact (sb.2 b h1).trans (hk b ob h1 h2 q)
    refine ⟨.ref s.heap.objs.size, _, I1, rfl, ⟨_, x, rfl, I.hok.fresh (Nat.le_refl _), rfl, fun ys hy' => ?_⟩, ⟨⟨y, ?_⟩, st'.1.at fun o q => (sb.2 it (Ne.symm hne)).trans q⟩, fun b hb => ?_⟩
    · rw [I.tuple_inj hy' hq]
      exact hx
    · have e1 : ((i + 1 : Nat) : Int) = (i : Int) + 1 := by omega
      rw [e1]
      exact he'
    · have hb' : b < s.heap.objs.size := by
        rcases (show b = e ∨ b = it by simpa using hb) with z | z
        · rw [z]; exact hel
        · rw [z]; exact hil
      rw [upd_ne (Nat.ne_of_lt hb')]
      exact (hf b hb).1
  done := by
    intro X hP hw hK hc i pins s σ H E I hf st hg
    subst hP hw hK
    obtain ⟨⟨old, he⟩, hit⟩ := st
    obtain ⟨xs, hq, hx⟩ := hg
    obtain ⟨its, rv, p, hz⟩ := I.tuple hq
    obtain ⟨f0, f1, f2, f3, f4, f5⟩ := hf it (by simp)
    have hl := rv.length
    have hd : (X.A.in1).handled = none := I.ok.hd hc
    have ei : i = its.toArray.size := by
      rw [List.size_toArray]
      omega
    subst ei
    exact wpAny_pyNext_enum_endD (Draws.tuple hd it a hat its.toArray) he ⟨hit, p⟩ fun h' eb => ⟨rfl, I.turned (t' := s.toks) (fun b o hb q => eb b o hb q) f0 f1 f3 f4 f5⟩
  self := fun A i s Q E st h => by
    obtain ⟨⟨_, he⟩, _⟩ := st
    exact wpAny_pyIter_enum he h
def iEnumT (K : PySem.W.Frag) (ta : TA) : TI := fun σ H R => ta σ H fun vs H1 => ∃ a xs, vs = [.ref a] ∧ SqT K H1 a xs ∧ R (Itet K a) H1
theorem pi_enumT {X : Cx} {e : Expr} {ta : TA} {p pos tpos : Pos} {elts : List Expr} {kk : Nat} (hg : Gl X "enumerate") (hm : X.mg "enumerate" = none) (ha : PA X [e] ta)
    (hs : starEach [e] X.env = [(false, eval e X.env)] := by rfl) : PI X (.Tuple elts kk tpos) (.Call (.Name "enumerate" p) [e] [] pos) (iEnumT X.K ta) := by
  refine ⟨fun pins s σ H R I h => ?_⟩
  refine Call_ (ld_blt I hg hm boot_enumerate (PyProof.Rows.callWith_type1 (thn (ha.run pos pins s σ H _ I h) fun us s1 ⟨vs, H1, I1, r1, q1⟩ => ?_) hs rfl))
  obtain ⟨a, xs, ex, hq, q⟩ := q1
  subst ex
  cases r1 with
  | cons r rr =>
    cases rr
    cases r
    obtain ⟨its, rv, p', hz⟩ := I1.tuple hq
    have hal : a < s1.heap.objs.size := by
      obtain ⟨_, q', _⟩ := p'
      exact Heap.lt_size q'
    refine enum_call1 (begins_tuple a its.toArray) p' fun h' he hit hk => wpAny_pyIter_enum he ?_
    have I2 : Inv X pins σ H1 { s1 with heap := h' } := I1.kept (t' := s1.toks) hk
    refine ⟨s1.heap.objs.size + 1, [s1.heap.objs.size + 1, s1.heap.objs.size], _, _, H1, rfl, I2,
      turn_enumT a (s1.heap.objs.size + 1) s1.heap.objs.size (Nat.succ_ne_self _) (Nat.ne_of_lt hal) (Nat.ne_of_gt (Nat.lt_succ_of_lt hal)), ⟨⟨.none, he⟩, ⟨_, hit, rfl, rfl⟩⟩, fun b hb => ?_, q⟩
    have hle : s1.heap.objs.size ≤ b := by
      rcases (show b = s1.heap.objs.size + 1 ∨ b = s1.heap.objs.size by simpa using hb) with z | z
      · rw [z]; exact Nat.le_add_right _ _
      · rw [z]; exact Nat.le_refl _
    exact I1.fpOk hle (I1.hok.fresh hle)
theorem walk_enumT {K : PySem.W.Frag} {a : Addr} {xs : List V} : Walk (Itet K a) xs.length (fun H => SqT K H a xs) (YPair (fun i => some (.int (i : Nat))) (fun i => xs[i]?)) where
  goes := fun i H hi h => ⟨xs, xs[i], h, List.getElem?_eq_getElem hi⟩
  stops := fun H h => ⟨xs, h, rfl⟩
  yields := fun i H x H' hi h ⟨T, y, e1, e2, e3, e4⟩ => ⟨T, .int (i : Nat), y, e1, e2, e3, rfl, e4 xs h⟩
end Wr

set_option Elab.async false
set_option linter.all false
set_option maxRecDepth 100000
set_option maxHeartbeats 4000000
namespace Wr
open PySem PySem.Spec PyProof.Rows L2 Evl

/-! ### flat data -/
def flatP : PyData → Bool
  | .none => true
  | .bool _ => true
  | .int _ => true
  | .str _ => true
  | _ => false
def vOf : PyData → V
  | .bool b => .bl b
  | .int i => .int i
  | .str x => .str x
  | _ => .non
theorem dp_flat {K : PySem.W.Frag} {H : Hp} {v : V} {d : PyData} (h : Dd K H v d) (f : flatP d = true) : v = vOf d := by
  cases h with
  | non => rfl
  | bl b => rfl
  | int i => rfl
  | str x => rfl
  | lst _ _ => cases f
  | tup _ _ _ => cases f
theorem flat_dp {K : PySem.W.Frag} {H : Hp} {d : PyData} (f : flatP d = true) : Dd K H (vOf d) d := by
  cases d with
  | none => exact .non
  | bool b => exact .bl b
  | int i => exact .int i
  | str x => exact .str x
  | list _ => cases f
  | tuple _ => cases f
  | dict _ => cases f
theorem flats_dp {K : PySem.W.Frag} {H : Hp} : ∀ {ds : List PyData}, (∀ d ∈ ds, flatP d = true) → DdAll K H (ds.map vOf) ds
  | [], _ => .nil
  | d :: ds, f => .cons (flat_dp (f d List.mem_cons_self)) (flats_dp fun e he => f e (List.mem_cons_of_mem _ he))
theorem wipe_set1 {σ : L2.St} {n : Nat} {x : Option V} : wipe ((wipe σ [n]).set n x) [n] = wipe σ [n] := by
  show ((σ.set n none).set n x).set n none = σ.set n none
  rw [List.set_set, List.set_set]
section
variable {K : PySem.W.Frag} {b : List Addr} {σ : L2.St} {H H' : Hp} {ta te : TE} {tt : TT} {d : PyData} {ds : List PyData}
/-- a comprehension with one name, a test and flat items, over anything that is walked -/
theorem lc_flat {J : It} {n : Nat} {G : Hp → Prop} {xs : List V} {H2 : Hp} {k : Nat} {g : Nat → PyData} {p : Nat → Bool} (W : Walk J n G (YAt xs)) (hn : n = xs.length) (hl : n < sizeLine) (kn : Kn b H2) (hG : ∀ H3, Ex H2 H3 → G H3)
    (hp : ∀ i x H3, xs[i]? = some x → Ex H2 H3 → EvT tt ((wipe σ [k]).set k (some x)) H3 (p i))
    (he : ∀ i x H3, xs[i]? = some x → p i = true → Ex H2 H3 → ED K b te ((wipe σ [k]).set k (some x)) H3 (g i)) (hf : ∀ i, i < n → p i = true → flatP (g i) = true)
    {Q : VK} (q : ∀ v H3, Ex H2 H3 → Dq K b H3 v (.list (((List.range n).filter p).map g)) → Q v H3) (D : Addr) (hD : H2 D = none) :
    ∃ W : Nat → Nat → Hp → Prop, (∃ m, W 0 m (upd H2 D (.lst []))) ∧ ∀ i m H, W i m H →
      (J.stop i H ∧ Q (.ref D) H) ∨ (J.go i H ∧ ∃ Nx : Hp → Prop, (∀ H', Nx H' → ∃ m', m' < m ∧ W (i + 1) m' H') ∧ ∀ x H', J.yld i H x H' → gName k x (wipe σ [k]) H' fun σ2 H2 => wipe σ2 [k] = wipe σ [k] ∧ tt σ2 H2 fun b H3 =>
        if b = true then te σ2 H3 fun y H4 => ∃ acc, H4 D = some (.lst acc) ∧ acc.length < sizeLine ∧ Nx (upd H4 D (.lst (acc ++ [y]))) else Nx H3) := by
  refine lc_it W (fun i H3 => Ex H2 H3 ∧ H3 D = some (.lst ((((List.range i).filter p).map g).map vOf))) ⟨Ex.new hD, upd_same⟩ (fun i H3 _ h => hG H3 h.1) ?_ ?_
  · intro i x H3 H3' hi ⟨x3, e3⟩ ⟨e1, hx⟩
    subst e1
    refine ⟨wipe_set1, hp i x H3' hx x3 H3' (Ex.refl _) _ fun H4 x4 => ?_⟩
    have er : ∀ c, p i = c → (List.range (i + 1)).filter p = (List.range i).filter p ++ (if c = true then [i] else []) := fun c hc => by
      rw [List.range_succ, List.filter_append]
      cases c with
      | true => simp [hc]
      | false => simp [hc]
    cases hpi : p i with
    | false =>
      rw [if_neg Bool.false_ne_true]
      refine ⟨x3.trans x4, ?_⟩
      rw [er false hpi, if_neg Bool.false_ne_true, List.append_nil]
      exact x4 _ _ e3
    | true =>
      rw [if_pos rfl]
      refine he i x H4 hx hpi (x3.trans x4) H4 (Ex.refl _) _ fun y H5 x5 hy => ?_
      have ey := dp_flat hy (hf i hi hpi)
      refine ⟨_, x5 _ _ (x4 _ _ e3), ?_, Ex.mut (x3.trans (x4.trans x5)) hD, ?_⟩
      · rw [List.length_map, List.length_map]
        have := List.length_filter_le p (List.range i)
        rw [List.length_range] at this
        omega
      · rw [upd_same, er true hpi, if_pos rfl, List.map_append, List.map_append, ey]
        rfl
  · intro H3 ⟨x3, e3⟩
    refine q _ H3 x3 (.lst (.inl (.inl ?_)) (flats_dp fun d hd => ?_))
    · rw [hid_ne (kn.new hD)]
      exact e3
    · obtain ⟨i, hi, rfl⟩ := List.mem_map.mp hd
      obtain ⟨h1, h2⟩ := List.mem_filter.mp hi
      exact hf i (List.mem_range.mp h1) h2
theorem range_map {α β : Type} (xs : List α) (f : α → β) (g : Nat → β) (h : ∀ i x, xs[i]? = some x → g i = f x) : (List.range xs.length).map g = xs.map f := by
  apply List.ext_getElem?
  intro i
  rw [List.getElem?_map, List.getElem?_map]
  by_cases hi : i < xs.length
  · rw [List.getElem?_eq_getElem (by rw [List.length_range]; exact hi), List.getElem?_eq_getElem hi, List.getElem_range]
    simp [h i xs[i] (List.getElem?_eq_getElem hi)]
  · rw [List.getElem?_eq_none (by rw [List.length_range]; omega), List.getElem?_eq_none (by omega)]
    rfl
theorem range_filter_map {α β : Type} (f : α → β) (p : α → Bool) : ∀ (xs : List α) (g : Nat → β) (q : Nat → Bool), (∀ i x, xs[i]? = some x → q i = p x ∧ (p x = true → g i = f x)) → ((List.range xs.length).filter q).map g = (xs.filter p).map f
  | [], _, _, _ => rfl
  | x :: xs, g, q, h => by
    rw [List.length_cons, List.range_succ_eq_map, List.filter_cons]
    obtain ⟨h1, h2⟩ := h 0 x rfl
    have ih := range_filter_map f p xs (fun i => g (i + 1)) (fun i => q (i + 1)) fun i y hy => h (i + 1) y hy
    have e : ((List.range xs.length).map Nat.succ).filter q = ((List.range xs.length).filter fun i => q (i + 1)).map Nat.succ := by
      rw [List.filter_map]
      rfl
    have e2 : (((List.range xs.length).map Nat.succ).filter q).map g = (xs.filter p).map f := by
      rw [e, List.map_map, ← ih]
      rfl
    rw [h1, List.filter_cons]
    cases hp : p x with
    | true =>
      rw [if_pos rfl, if_pos rfl, List.map_cons, List.map_cons, e2, h2 hp]
    | false =>
      rw [if_neg Bool.false_ne_true, if_neg Bool.false_ne_true, e2]
/-- over a tuple, a list: no test -/
theorem et_yes : EvT tYes σ H true := fun H1 x Q q => q H1 (Ex.refl H1)
/-- over a tuple or a list: with a test; items flat -/
theorem ed_lcT {k : Nat} {f : PyData → PyData} {p : PyData → Bool} (kn : Kn b H) (ha : ED K b ta σ H (.tuple ds)) (hl : ds.length < sizeLine)
    (hp : ∀ d v H3, d ∈ ds → Ex H H3 → Dq K b H3 v d → EvT tt ((wipe σ [k]).set k (some v)) H3 (p d))
    (he : ∀ d v H3, d ∈ ds → p d = true → Ex H H3 → Dq K b H3 v d → ED K b te ((wipe σ [k]).set k (some v)) H3 (f d)) (hf : ∀ d ∈ ds, p d = true → flatP (f d) = true) :
    ED K b (tLc (iTup K ta) (gName k) tt te [k]) σ H (.list ((ds.filter p).map f)) := fun H1 x1 Q q =>
  ha H1 x1 _ fun x H2 x2 hx => by
    cases hx with
    | @tup a xs _ h1 _ h2 =>
      have hlen := dps_len h2
      have at_ : ∀ i x, xs[i]? = some x → ∃ d, ds[i]? = some d ∧ d ∈ ds ∧ Dq K b H2 x d := fun i x hx => by
        obtain ⟨d, g1, g2⟩ := dps_at h2 hx
        exact ⟨d, g1, List.mem_of_getElem? g1, g2⟩
      refine ⟨a, rfl, ⟨xs, ex_t hid_le h1⟩, lc_flat (K := K) (g := fun i => f (ds.getD i .none)) (p := fun i => p (ds.getD i .none)) walk_tup rfl (by rw [hlen]; exact hl) (kn.up (x1.trans x2)) (fun H3 x3 => ex_t x3 (ex_t hid_le h1)) ?_ ?_ ?_ ?_⟩
      · intro i x H3 hx x3
        obtain ⟨d, g1, g2, g3⟩ := at_ i x hx
        simp only [List.getD_eq_getElem?_getD, g1, Option.getD_some]
        exact hp d x H3 g2 ((x1.trans x2).trans x3) (g3.up x3)
      · intro i x H3 hx hpi x3
        obtain ⟨d, g1, g2, g3⟩ := at_ i x hx
        simp only [List.getD_eq_getElem?_getD, g1, Option.getD_some] at hpi ⊢
        exact he d x H3 g2 hpi ((x1.trans x2).trans x3) (g3.up x3)
      · intro i hi hpi
        have hi' : i < ds.length := by omega
        have g1 : ds[i]? = some ds[i] := List.getElem?_eq_getElem hi'
        simp only [List.getD_eq_getElem?_getD, g1, Option.getD_some] at hpi ⊢
        exact hf _ (List.getElem_mem hi') hpi
      · intro v H3 x3 hv
        refine q v H3 (x2.trans x3) ?_
        rw [hlen] at hv
        rw [range_filter_map f p ds _ _ fun i d hd => ⟨by simp only [List.getD_eq_getElem?_getD, hd, Option.getD_some], fun _ => by simp only [List.getD_eq_getElem?_getD, hd, Option.getD_some]⟩] at hv
        exact hv
theorem ed_lcL {k : Nat} {f : PyData → PyData} {p : PyData → Bool} (kn : Kn b H) (ha : ED K b ta σ H (.list ds)) (hl : ds.length < sizeLine)
    (hp : ∀ d v H3, d ∈ ds → Ex H H3 → Dq K b H3 v d → EvT tt ((wipe σ [k]).set k (some v)) H3 (p d))
    (he : ∀ d v H3, d ∈ ds → p d = true → Ex H H3 → Dq K b H3 v d → ED K b te ((wipe σ [k]).set k (some v)) H3 (f d)) (hf : ∀ d ∈ ds, p d = true → flatP (f d) = true) :
    ED K b (tLc (iList K ta) (gName k) tt te [k]) σ H (.list ((ds.filter p).map f)) := fun H1 x1 Q q =>
  ha H1 x1 _ fun x H2 x2 hx => by
    cases hx with
    | @lst a xs _ h1 h2 =>
      have hlen := dps_len h2
      have at_ : ∀ i x, xs[i]? = some x → ∃ d, ds[i]? = some d ∧ d ∈ ds ∧ Dq K b H2 x d := fun i x hx => by
        obtain ⟨d, g1, g2⟩ := dps_at h2 hx
        exact ⟨d, g1, List.mem_of_getElem? g1, g2⟩
      refine ⟨a, rfl, ⟨xs, ex_l hid_le h1⟩, lc_flat (K := K) (g := fun i => f (ds.getD i .none)) (p := fun i => p (ds.getD i .none)) walk_list rfl (by rw [hlen]; exact hl) (kn.up (x1.trans x2)) (fun H3 x3 => ex_l x3 (ex_l hid_le h1)) ?_ ?_ ?_ ?_⟩
      · intro i x H3 hx x3
        obtain ⟨d, g1, g2, g3⟩ := at_ i x hx
        simp only [List.getD_eq_getElem?_getD, g1, Option.getD_some]
        exact hp d x H3 g2 ((x1.trans x2).trans x3) (g3.up x3)
      · intro i x H3 hx hpi x3
        obtain ⟨d, g1, g2, g3⟩ := at_ i x hx
        simp only [List.getD_eq_getElem?_getD, g1, Option.getD_some] at hpi ⊢
        exact he d x H3 g2 hpi ((x1.trans x2).trans x3) (g3.up x3)
      · intro i hi hpi
        have hi' : i < ds.length := by omega
        have g1 : ds[i]? = some ds[i] := List.getElem?_eq_getElem hi'
        simp only [List.getD_eq_getElem?_getD, g1, Option.getD_some] at hpi ⊢
        exact hf _ (List.getElem_mem hi') hpi
      · intro v H3 x3 hv
        refine q v H3 (x2.trans x3) ?_
        rw [hlen] at hv
        rw [range_filter_map f p ds _ _ fun i d hd => ⟨by simp only [List.getD_eq_getElem?_getD, hd, Option.getD_some], fun _ => by simp only [List.getD_eq_getElem?_getD, hd, Option.getD_some]⟩] at hv
        exact hv
theorem filter_yes {α β : Type} (xs : List α) (f : α → β) : (xs.filter fun _ => true).map f = xs.map f := by
  rw [List.filter_eq_self.mpr fun _ _ => rfl]
theorem ed_lcT1 {k : Nat} {f : PyData → PyData} (kn : Kn b H) (ha : ED K b ta σ H (.tuple ds)) (hl : ds.length < sizeLine)
    (he : ∀ d v H3, d ∈ ds → Ex H H3 → Dq K b H3 v d → ED K b te ((wipe σ [k]).set k (some v)) H3 (f d)) (hf : ∀ d ∈ ds, flatP (f d) = true) :
    ED K b (tLc (iTup K ta) (gName k) tYes te [k]) σ H (.list (ds.map f)) :=
  (ed_lcT (p := fun _ => true) kn ha hl (fun _ _ _ _ _ _ => et_yes) (fun d v H3 h _ x hd => he d v H3 h x hd) fun d h _ => hf d h).to (by rw [filter_yes])
theorem ed_lcL1 {k : Nat} {f : PyData → PyData} (kn : Kn b H) (ha : ED K b ta σ H (.list ds)) (hl : ds.length < sizeLine)
    (he : ∀ d v H3, d ∈ ds → Ex H H3 → Dq K b H3 v d → ED K b te ((wipe σ [k]).set k (some v)) H3 (f d)) (hf : ∀ d ∈ ds, flatP (f d) = true) :
    ED K b (tLc (iList K ta) (gName k) tYes te [k]) σ H (.list (ds.map f)) :=
  (ed_lcL (p := fun _ => true) kn ha hl (fun _ _ _ _ _ _ => et_yes) (fun d v H3 h _ x hd => he d v H3 h x hd) fun d h _ => hf d h).to (by rw [filter_yes])
/-- over the signs of a text, with a test -/
theorem ed_lcS {k : Nat} {z : Str} {p : Nat → Bool} (hk : k < σ.length) (kn : Kn b H) (ha : ED K b ta σ H (.str z)) (hl : z.length < sizeLine)
    (hp : ∀ c H3, c ∈ z.cps.toList → Ex H H3 → EvT tt ((wipe σ [k]).set k (some (.str ⟨#[c]⟩))) H3 (p c)) :
    ED K b (tLc (iStr ta) (gName k) tt (tVar k) [k]) σ H (.list ((z.cps.toList.filter p).map fun c => .str ⟨#[c]⟩)) := fun H1 x1 Q q =>
  ha H1 x1 _ fun x H2 x2 hx => by
    cases hx
    have hsz : z.cps.size = (z.cps.toList.map fun c => V.str ⟨#[c]⟩).length := by rw [List.length_map, Array.length_toList]
    have wk : Walk (Its z) z.cps.size (fun _ => True) (YAt (z.cps.toList.map fun c => V.str ⟨#[c]⟩)) := walk_str.mono (fun _ _ => trivial) fun i H x H' _ _ ⟨e, c, h1, h2⟩ => ⟨e, by
      rw [List.getElem?_map, Array.getElem?_toList, h1, h2]
      rfl⟩
    have at_ : ∀ i x, (z.cps.toList.map fun c => V.str ⟨#[c]⟩)[i]? = some x → ∃ c, z.cps.toList[i]? = some c ∧ x = V.str ⟨#[c]⟩ := fun i x hx => by
      rw [List.getElem?_map] at hx
      cases e : z.cps.toList[i]? with
      | none => rw [e] at hx; cases hx
      | some c =>
        rw [e] at hx
        exact ⟨c, e, (Option.some.inj hx).symm⟩
    refine ⟨z, rfl, lc_flat (K := K) (g := fun i => .str ⟨#[z.cps.toList.getD i 0]⟩) (p := fun i => p (z.cps.toList.getD i 0)) wk hsz (show z.cps.size < _ from hl) (kn.up (x1.trans x2)) (fun _ _ => trivial) ?_ ?_ ?_ ?_⟩
    · intro i x H3 hx x3
      obtain ⟨c, g1, rfl⟩ := at_ i x hx
      simp only [List.getD_eq_getElem?_getD, g1, Option.getD_some]
      exact hp c H3 (List.mem_of_getElem? g1) ((x1.trans x2).trans x3)
    · intro i x H3 hx hpi x3
      obtain ⟨c, g1, rfl⟩ := at_ i x hx
      simp only [List.getD_eq_getElem?_getD, g1, Option.getD_some]
      refine ed_var ?_ (.str _)
      show ((σ.set k none).set k _)[k]? = _
      rw [List.getElem?_set_self (by rw [List.length_set]; exact hk)]
    · intro i hi _
      rfl
    · intro v H3 x3 hv
      refine q v H3 (x2.trans x3) ?_
      have e0 : z.cps.size = z.cps.toList.length := by rw [Array.length_toList]
      rw [e0] at hv
      rw [range_filter_map (fun c => PyData.str ⟨#[c]⟩) p z.cps.toList _ _ fun i d hd => ⟨by simp only [List.getD_eq_getElem?_getD, hd, Option.getD_some], fun _ => by simp only [List.getD_eq_getElem?_getD, hd, Option.getD_some]⟩] at hv
      exact hv
end
end Wr

set_option Elab.async false
set_option linter.all false
set_option maxRecDepth 100000
set_option maxHeartbeats 8000000
namespace Wr
open PySem PySem.Spec PyProof.Rows L2 Evl

/-! ### set(texts) -/
/-- each once, as first met -/
def uqStep (acc : List Str) (x : Str) : List Str := if x ∈ acc then acc else acc ++ [x]
def uq (xs : List Str) : List Str := xs.foldl uqStep []
theorem uq_snoc (xs : List Str) (x : Str) : uq (xs ++ [x]) = uqStep (uq xs) x := by
  unfold uq
  rw [List.foldl_append]
  rfl
theorem uq_le : ∀ (xs acc : List Str), (xs.foldl uqStep acc).length ≤ acc.length + xs.length
  | [], acc => Nat.le_refl _
  | x :: xs, acc => by
    have ih := uq_le xs (uqStep acc x)
    have h1 : (uqStep acc x).length ≤ acc.length + 1 := by
      unfold uqStep
      split
      · omega
      · rw [List.length_append]; exact Nat.le_refl _
    rw [List.foldl_cons, List.length_cons]
    omega
theorem uq_length_le (xs : List Str) : (uq xs).length ≤ xs.length := by
  have := uq_le xs []
  rw [List.length_nil, Nat.zero_add] at this
  exact this
theorem uq_mem_acc : ∀ (xs acc : List Str) (y : Str), y ∈ xs.foldl uqStep acc ↔ y ∈ acc ∨ y ∈ xs
  | [], acc, y => by simp
  | x :: xs, acc, y => by
    rw [List.foldl_cons, uq_mem_acc xs (uqStep acc x) y, List.mem_cons]
    unfold uqStep
    split
    · constructor
      · rintro (h | h)
        · exact .inl h
        · exact .inr (.inr h)
      · rintro (h | rfl | h)
        · exact .inl h
        · exact .inl (by assumption)
        · exact .inr h
    · rw [List.mem_append, List.mem_singleton]
      constructor
      · rintro ((h | h) | h)
        · exact .inl h
        · exact .inr (.inl h)
        · exact .inr (.inr h)
      · rintro (h | h | h)
        · exact .inl (.inl h)
        · exact .inl (.inr h)
        · exact .inr h
theorem uq_mem (xs : List Str) (y : Str) : y ∈ uq xs ↔ y ∈ xs := by
  unfold uq
  rw [uq_mem_acc]
  simp
theorem uq_nodup_acc : ∀ (xs acc : List Str), acc.Nodup → (xs.foldl uqStep acc).Nodup
  | [], acc, h => h
  | x :: xs, acc, h => by
    rw [List.foldl_cons]
    refine uq_nodup_acc xs _ ?_
    unfold uqStep
    split
    · exact h
    · rename_i hx
      rw [List.nodup_append]
      refine ⟨h, by simp, fun a ha c hc => ?_⟩
      rw [List.mem_singleton] at hc
      intro e
      exact hx (hc ▸ e ▸ ha)
theorem uq_nodup (xs : List Str) : (uq xs).Nodup := uq_nodup_acc xs [] List.nodup_nil
theorem uq_all : ∀ (xs acc : List Str), (acc ++ xs).Nodup → xs.foldl uqStep acc = acc ++ xs
  | [], acc, _ => by simp
  | x :: xs, acc, h => by
    rw [List.foldl_cons]
    have hx : x ∉ acc := fun hm => by
      rw [List.nodup_append] at h
      exact h.2.2 x hm x List.mem_cons_self rfl
    have e : uqStep acc x = acc ++ [x] := if_neg hx
    rw [e, uq_all xs (acc ++ [x]) (by rw [List.append_assoc]; exact h), List.append_assoc]
    rfl
/-- as many as there are, just where no text stands twice -/
theorem uq_len_iff (xs : List Str) : (uq xs).length = xs.length ↔ xs.Nodup := by
  constructor
  · intro h
    have h1 := uq_nodup xs
    have sub : ∀ y ∈ xs, y ∈ uq xs := fun y hy => (uq_mem xs y).mpr hy
    by_cases hn : xs.Nodup
    · exact hn
    · exfalso
      have key : ∀ (xs acc : List Str), ¬ xs.Nodup → (xs.foldl uqStep acc).length < acc.length + xs.length := by
        intro xs
        induction xs with
        | nil => intro acc h; exact absurd List.nodup_nil h
        | cons x r ih =>
          intro acc h
          rw [List.foldl_cons, List.length_cons]
          by_cases hx : x ∈ acc
          · have e : uqStep acc x = acc := if_pos hx
            rw [e]
            have := uq_le r acc
            omega
          · have e : uqStep acc x = acc ++ [x] := if_neg hx
            by_cases hr : r.Nodup
            · have hxr : x ∈ r := by
                by_cases q : x ∈ r
                · exact q
                · exact absurd (List.nodup_cons.mpr ⟨q, hr⟩) h
              have low : ∀ (r acc : List Str) (x : Str), x ∈ acc → x ∈ r → (r.foldl uqStep acc).length < acc.length + r.length := by
                intro r
                induction r with
                | nil => intro acc x _ hm; cases hm
                | cons y r ih2 =>
                  intro acc x ha hm
                  rw [List.foldl_cons, List.length_cons]
                  by_cases hy : y ∈ acc
                  · have e : uqStep acc y = acc := if_pos hy
                    rw [e]
                    have := uq_le r acc
                    omega
                  · have e : uqStep acc y = acc ++ [y] := if_neg hy
                    rcases List.mem_cons.mp hm with rfl | hm
                    · exact absurd ha hy
                    · have := ih2 (acc ++ [y]) x (List.mem_append_left _ ha) hm
                      rw [e]
                      rw [List.length_append, List.length_singleton] at this
                      omega
              rw [e]
              have := low r (acc ++ [x]) x (by simp) hxr
              rw [List.length_append, List.length_singleton] at this
              omega
            · have := ih (acc ++ [x]) hr
              rw [e]
              rw [List.length_append, List.length_singleton] at this
              omega
      have := key xs [] hn
      rw [List.length_nil, Nat.zero_add] at this
      unfold uq at h
      omega
  · intro h
    unfold uq
    rw [uq_all xs [] h]
    rfl
def inK (L : List Str) (k : Key) : Bool := L.any fun x => decide (k = Sum.inr x)
theorem inK_step (L : List Str) (x : Str) : (fun k => inK L k || decide (k = (Sum.inr x : Key))) = inK (uqStep L x) := by
  funext k
  unfold uqStep inK
  split
  · rename_i hx
    by_cases e : k = Sum.inr x
    · have : (L.any fun x => decide (k = Sum.inr x)) = true := List.any_eq_true.mpr ⟨x, hx, decide_eq_true e⟩
      rw [this]
      rfl
    · rw [decide_eq_false e, Bool.or_false]
  · rw [List.any_append]
    simp
theorem inK_self (L : List Str) (x : Str) : inK L (Sum.inr x) = decide (x ∈ L) := by
  unfold inK
  by_cases h : x ∈ L
  · rw [decide_eq_true h]
    exact List.any_eq_true.mpr ⟨x, h, decide_eq_true rfl⟩
  · rw [decide_eq_false h]
    apply Bool.eq_false_iff.mpr
    intro q
    obtain ⟨y, hy, e⟩ := List.any_eq_true.mp q
    have e1 := of_decide_eq_true e
    cases e1
    exact h hy
section
variable {prog : Program} {w : World} {A : Around} {R : Result → Shared → Prop} {I : Addr} {fp wr : List Addr} {G : Array GenState → Array GenState → Prop} {n : Nat} {P : Nat → Value → Prop} {St : Nat → Shared → Prop}
/-- the loop that fills a set of texts -/
theorem fill_texts (W : WalksS prog w A.in1 I fp wr G n P St) (S : Addr) (hSf : S ∉ fp) (xs : List Str) (hsz : xs.length = n) (hn1 : n + 1 < scanBound)
    (hval : ∀ i v, P i v → ∃ x t, xs[i]? = some x ∧ v = .str x t) : ∀ (k i : Nat) (s : Shared), n - i = k → i ≤ n → St i s →
      s.heap.SetOf (mixKind prog w) S (inK (uq (xs.take i))) (uq (xs.take i)).length →
      (∀ s', Moved (S :: wr) G s s' → s'.heap.SetOf (mixKind prog w) S (inK (uq xs)) (uq xs).length → R (.ok (.ret .none)) s') →
      codeAny (model prog w) A (.builtin "set.update.loop" ⟨[.ref S, .ref I], []⟩) R s := by
  have out : S ∉ wr := fun h => hSf (W.sub _ h)
  have more : ∀ c ∈ wr, c ∈ S :: wr := fun c hc => List.mem_cons_of_mem _ hc
  intro k
  induction k with
  | zero =>
    intro i s hk hi hst hS hR
    obtain rfl : i = n := by omega
    refine codeAny_builtin PyProof.Rows.F.entry_set_update_loop ?_
    rw [Around.under_plainId PyProof.Rows.F.plain_set_update_loop _]
    show wpAny _ A.in1 (pyNext (.ref I) >>= _) _ _ s
    refine wpAny_bind (W.done s _ _ hst fun s' hm => ?_)
    show wpAny _ A.in1 (ret Value.none) _ _ s'
    refine wpAny_pure (hR s' (hm.mono more) ?_)
    rw [List.take_of_length_le (by omega)] at hS
    obtain ⟨o, es, ep, t, ho, rest⟩ := hS
    exact ⟨o, es, ep, t, hm.heap S _ out ho, rest⟩
  | succ k ih =>
    intro i s hk hi hst hS hR
    have hlt : i < n := by omega
    refine codeAny_builtin PyProof.Rows.F.entry_set_update_loop ?_
    rw [Around.under_plainId PyProof.Rows.F.plain_set_update_loop _]
    show wpAny _ A.in1 (pyNext (.ref I) >>= _) _ _ s
    refine wpAny_bind (W.item i s _ _ hlt hst fun v s' hP hst' hm => ?_)
    obtain ⟨x, t, hx, rfl⟩ := hval i v hP
    have hS' : s'.heap.SetOf (mixKind prog w) S (inK (uq (xs.take i))) (uq (xs.take i)).length := by
      obtain ⟨o, es, ep, tb, ho, rest⟩ := hS
      exact ⟨o, es, ep, tb, hm.heap S _ out ho, rest⟩
    show wpAny _ A.in1 (holding [Value.str x t] (setAdd S (.str x t)) >>= _) _ _ s'
    refine wpAny_bind (wpAny_holding ?_)
    unfold setAdd
    refine wpAny_holding (wpAny_bind ((mixKind prog w).pyHash (k := Sum.inr x) (mixKind_str _ _ _ _) ?_))
    have room : (uq (xs.take i)).length + 1 < scanBound := by
      have h1 := uq_length_le (xs.take i)
      rw [List.length_take] at h1
      omega
    refine wpAny_setAddHashed_of (knd := mixKind prog w) (k := Sum.inr x) (s := { s' with toks := s'.toks + 1 }) (mixKind_str _ _ _ _) rfl hS' room fun h' hsb hS2 => ?_
    have et : xs.take (i + 1) = xs.take i ++ [x] := by
      rw [List.take_add_one, hx]
      rfl
    have hSi : h'.SetOf (mixKind prog w) S (inK (uq (xs.take (i + 1)))) (uq (xs.take (i + 1))).length := by
      rw [inK_step, inK_self] at hS2
      rw [et, uq_snoc]
      have el : (if decide (x ∈ uq (xs.take i)) = true then (uq (xs.take i)).length else (uq (xs.take i)).length + 1) = (uqStep (uq (xs.take i)) x).length := by
        unfold uqStep
        by_cases h : x ∈ uq (xs.take i)
        · rw [decide_eq_true h, if_pos rfl, if_pos h]
        · rw [decide_eq_false h, if_neg Bool.false_ne_true, if_neg h, List.length_append]
          rfl
      rw [el] at hS2
      exact hS2
    refine wpAny_pure ⟨plainId_quiet PyProof.Rows.F.plain_set_update_loop _, ih (i + 1) _ (by omega) hlt (W.frame _ s' _ _ hst' (Nat.le_succ _) fun c hc o e => ?_) hSi fun s'' hm'' hS'' => ?_⟩
    · have nc : c ≠ S := fun h => hSf (h ▸ hc)
      rw [hsb.2 c nc]
      exact e
    · refine hR s'' (Moved.trans W.gtrans ((hm.mono more).then_heap (Nat.le_succ _) fun c o hc e => ?_) hm'') hS''
      have nc : c ≠ S := fun h => hc (by rw [h]; exact List.mem_cons_self)
      rw [hsb.2 c nc]
      exact e
end
end Wr

set_option Elab.async false
set_option linter.all false
set_option maxRecDepth 100000
set_option maxHeartbeats 8000000
namespace Wr
open PySem PySem.Spec PyProof.Rows L2 Evl
abbrev freshSet (led : Bool) : Obj := { cls := .type "set", dict := none, data := .set #[] 0 (.fresh 0 0 led) }
section
variable {prog : Program} {w : World} {A : Around} {E : Value → Shared → Prop} {s : Shared}
/-- what set(v) asks of v: its type, its iterator -/
structure SetSrc (prog : Program) (w : World) (T : String) (l : Addr) (xs : List Str) (s : Shared) : Prop where
  sub1 : isSubtype (.type T) (.type "set") = pure false
  sub2 : isSubtype (.type T) (.type "frozenset") = pure false
  nd : (Value.type T == Value.type "dict") = false
  ob : ∃ o, s.heap.get? l = some o ∧ o.cls = .type T
  it : ∀ (A : Around) (led : Bool) (Q : Value → Shared → Prop) (E : Value → Shared → Prop), A.handled = none →
    (∀ (s2 : Shared) (I : Addr) (fp wr : List Addr) (G : Array GenState → Array GenState → Prop) (P : Nat → Value → Prop) (St : Nat → Shared → Prop), (∀ a, G a a) → (∀ a b, G a b → b = a) → WalksS prog w A.in1 I fp wr G xs.length P St → St 0 s2 →
      s.heap.objs.size ∉ fp → (∀ b o, (s.heap.push (freshSet led)).get? b = some o → s2.heap.get? b = some o) → (∀ b ∈ wr, s.heap.objs.size < b) →
      (∀ i v, P i v → ∃ x t, xs[i]? = some x ∧ v = .str x t) → s2.gens = s.gens ∧ s2.drawn = s.drawn ∧ s2.os = s.os → Q (.ref I) s2) →
    wpAny (model prog w) A (pyIter (.ref l)) Q E { s with heap := s.heap.push (freshSet led) }
theorem set_call {T : String} {l : Addr} {xs : List Str} {Q : Value → Shared → Prop} (hh : A.handled = none) (src : SetSrc prog w T l xs s) (hn : xs.length + 1 < scanBound)
    (h : ∀ (h' : Heap) (tk : Nat), h'.SetOf (mixKind prog w) s.heap.objs.size (inK (uq xs)) (uq xs).length →
      (∀ b o, b < s.heap.objs.size → s.heap.get? b = some o → h'.get? b = some o) → Q (.ref s.heap.objs.size) { s with heap := h', toks := tk }) :
    wpAny (model prog w) A (call (.type "set") [.ref l]) Q E s := by
  obtain ⟨c, tl, hmro⟩ := PySem.F.called_set.mro
  have m1 := PySem.F.called_set.made
  have m2 := PySem.F.called_set.sub
  refine wpAny_call (codeAny_of_tree ?_)
  show wpAny _ _ (callAny (.type "set") _) _ _ _
  refine wpAny_pure ⟨Code.quiet_builtin _ (by decide +kernel), codeAny_builtin PySem.F.entry_type_call ?_⟩
  rw [Around.under_plain (weight_type_call_type "set" [.ref l] []) rfl]
  have m3 := PySem.F.called_set.notType
  have m4 := PySem.F.called_set.canCreate
  have m5 := PySem.F.typeCall_set_1 (.ref l)
  repeat (any_goals (first | assumption | wp_step))
  refine codeAny_mono (code_set_new_1 (.ref l) (E := E) (Q₁ := fun obj s₁ => ∃ led : Bool, obj = .ref s.heap.objs.size ∧
    s₁ = { s with heap := s.heap.push (freshSet led) }) fun led => ⟨led, rfl, rfl⟩) fun r s₁ hr => ?_
  cases r with
  | error e => exact hr
  | ok fl =>
    cases fl with
    | ret obj =>
      obtain ⟨led, rfl, rfl⟩ := hr
      have hS : (s.heap.push (freshSet led)).get? s.heap.objs.size = some (freshSet led) := Heap.get?_push_size _ rfl
      have hT : Shared.TypeIs { s with heap := s.heap.push (freshSet led) } (.ref s.heap.objs.size) "set" := ⟨_, hS, rfl⟩
      have m6 := PySem.F.called_set.init.lookup
      have m7 := PySem.F.called_set.init.bind (.ref s.heap.objs.size)
      repeat (any_goals (first | assumption | wp_step))
      refine codeAny_mono (codeAny_call_builtin (R := wants (fun r s₂ => r = .none ∧ ∃ h' tk, s₂ = { s with heap := h', toks := tk } ∧
          h'.SetOf (mixKind prog w) s.heap.objs.size (inK (uq xs)) (uq xs).length ∧ ∀ b o, b < s.heap.objs.size → s.heap.get? b = some o → h'.get? b = some o) E)
        PySem.F.called_set.init.plain PySem.F.entry_set_init (check_set_init_1 hT ?_)) fun r₂ s₂ hr₂ => ?_
      · obtain ⟨⟨ocls, odict, odata, oslots⟩, hol, hcl⟩ := src.ob
        simp only at hcl
        subst hcl
        have hol' : (s.heap.push (freshSet led)).get? l = some { cls := .type T, dict := odict, data := odata, slots := oslots } := Heap.get?_push_of_some _ hol
        have m8 := src.sub1
        have m9 := src.sub2
        have m10 := src.nd
        unfold Builtin.«set.__init__» noKeywords Builtin.Frozenset.updateFrom
        generalize hPI : pyIter = PI
        wp_walk
        subst hPI
        refine src.it _ led _ _ (by simp [hh]) fun s2 I fp wr G P St g1 g2 W st hS2 k2 hw hval hsame => ?_
        refine wpAny_bind (wpAny_runValue ?_)
        refine fill_texts W s.heap.objs.size hS2 xs rfl hn hval (xs.length - 0) 0 _ (by omega) (Nat.zero_le _) st ?hS0 ?hR
        case hS0 =>
          have g0 : s2.heap.get? s.heap.objs.size = some (freshSet led) := k2 _ _ hS
          show s2.heap.SetOf (mixKind prog w) s.heap.objs.size (fun _ => false) 0
          exact ⟨_, #[], 0, _, g0, ⟨rfl, rfl, rfl⟩, rfl, fun e he => by simp at he, fun k => by simp, by decide, by rfl, rfl⟩
        case hR =>
          intro s' hm hS'
          obtain ⟨hp', g', d', tk', os'⟩ := s'
          obtain ⟨q1, q2, q3⟩ := hsame
          have eg : g' = s.gens := (g2 _ _ hm.gens).trans q1
          have ed : d' = s.drawn := hm.drawn.trans q2
          have eo : os' = s.os := hm.os.trans q3
          subst eg ed eo
          refine wpAny_pure ?_
          show wpAny _ _ (ret Value.none) _ _ _
          refine wpAny_pure ⟨rfl, hp', tk', rfl, hS', fun b o hb e => ?_⟩
          refine hm.heap b o (fun hmem => ?_) (k2 b o (Heap.get?_push_of_some _ e))
          rcases List.mem_cons.mp hmem with z | z
          · exact absurd (z ▸ hb) (Nat.lt_irrefl _)
          · exact absurd (hw b z) (Nat.not_lt.mpr (Nat.le_of_lt hb))
      · cases r₂ with
        | error e => exact hr₂
        | ok fl₂ =>
          cases fl₂ with
          | ret r =>
            obtain ⟨rfl, h', tk, rfl, hS', hk'⟩ := hr₂
            repeat (any_goals (first | assumption | wp_step))
            exact h _ _ hS' hk'
          | _ => exact hr₂.elim
    | _ => exact hr.elim
end
end Wr

set_option Elab.async false
set_option linter.all false
set_option maxRecDepth 100000
set_option maxHeartbeats 8000000
namespace Wr
open PySem PySem.Spec PyProof.Rows L2 Evl
theorem strs_val : ∀ {xs : List Str} {us : List Value} {i : Nat} {v : Value}, Vals (xs.map V.str) us → us[i]? = some v → ∃ x t, xs[i]? = some x ∧ v = .str x t
  | [], _, i, v, .nil, h => by simp at h
  | x :: xs, _, 0, v, .cons r _, h => by
    obtain ⟨t, e⟩ := r
    have h' := Option.some.inj h
    exact ⟨x, t, rfl, by rw [← h', e]⟩
  | x :: xs, _, i + 1, v, .cons _ r, h => by
    obtain ⟨y, t, h1, h2⟩ := strs_val r (i := i) (v := v) h
    exact ⟨y, t, h1, h2⟩
section
variable {prog : Program} {w : World} {A : Around} {E : Value → Shared → Prop} {s : Shared}
theorem src_list {l : Addr} {items : Array Value} {xs : List Str} (hl : s.heap.IsList l items) (hi : Vals (xs.map V.str) items.toList) : SetSrc prog w "list" l xs s where
  sub1 := PySem.F.sub_list_set
  sub2 := PySem.F.sub_list_frozenset
  nd := by decide
  ob := by
    obtain ⟨o, ho, hc, _⟩ := hl
    exact ⟨o, ho, hc⟩
  it := fun A led Q E hh k => by
    have hl1 : (s.heap.push (freshSet led)).IsList l items := by
      obtain ⟨o, ho, r⟩ := hl
      exact ⟨o, Heap.get?_push_of_some _ ho, r⟩
    have hls : l < s.heap.objs.size := by
      obtain ⟨o, ho, _⟩ := hl
      exact Heap.lt_size ho
    refine wpAny_pyIter_list hl1 ?_
    have hz : (s.heap.push (freshSet led)).objs.size = s.heap.objs.size + 1 := Heap.size_push ..
    have hne : l ≠ (s.heap.push (freshSet led)).objs.size := by
      rw [hz]
      exact Nat.ne_of_lt (Nat.lt_succ_of_lt hls)
    have hlen : xs.length = items.size := by
      have := hi.length
      rw [List.length_map, Array.length_toList] at this
      exact this
    have W := ((Walks.list (prog := prog) (w := w) (A := A.in1) hh _ l hne items).toS)
    rw [← hlen] at W
    refine k _ _ _ _ (fun a b => b = a) _ _ (fun _ => rfl) (fun _ _ e => e) W ?_ ?_ (fun b o e => Heap.get?_push_of_some _ e) ?_ ?_ ⟨rfl, rfl, rfl⟩
    · exact ⟨⟨_, Heap.get?_push_size _ rfl, rfl, rfl⟩, hl1.push _⟩
    · rw [hz]
      simp only [List.mem_cons, List.not_mem_nil, or_false, not_or]
      exact ⟨Nat.ne_of_lt (Nat.lt_succ_self _), Nat.ne_of_gt hls⟩
    · intro b hb
      rw [hz] at hb
      rw [List.mem_singleton.mp hb]
      exact Nat.lt_succ_self _
    · intro i v hv
      have hv' : items.toList[i]? = some v := by
        rw [Array.getElem?_toList]
        exact hv
      exact strs_val hi hv'
theorem src_tuple {l : Addr} {items : Array Value} {xs : List Str} (hl : s.heap.IsTuple l items) (hi : Vals (xs.map V.str) items.toList) : SetSrc prog w "tuple" l xs s where
  sub1 := PySem.F.sub_tuple_set
  sub2 := PySem.F.sub_tuple_frozenset
  nd := by decide
  ob := by
    obtain ⟨o, ho, hc, _⟩ := hl
    exact ⟨o, ho, hc⟩
  it := fun A led Q E hh k => by
    have hl1 : (s.heap.push (freshSet led)).IsTuple l items := by
      obtain ⟨o, ho, r⟩ := hl
      exact ⟨o, Heap.get?_push_of_some _ ho, r⟩
    have hls : l < s.heap.objs.size := by
      obtain ⟨o, ho, _⟩ := hl
      exact Heap.lt_size ho
    refine wpAny_pyIter_tuple hl1 ?_
    have hz : (s.heap.push (freshSet led)).objs.size = s.heap.objs.size + 1 := Heap.size_push ..
    have hne : l ≠ (s.heap.push (freshSet led)).objs.size := by
      rw [hz]
      exact Nat.ne_of_lt (Nat.lt_succ_of_lt hls)
    have hlen : xs.length = items.size := by
      have := hi.length
      rw [List.length_map, Array.length_toList] at this
      exact this
    have W := ((Walks.tuple (prog := prog) (w := w) (A := A.in1) hh _ l hne items).toS)
    rw [← hlen] at W
    refine k _ _ _ _ (fun a b => b = a) _ _ (fun _ => rfl) (fun _ _ e => e) W ?_ ?_ (fun b o e => Heap.get?_push_of_some _ e) ?_ ?_ ⟨rfl, rfl, rfl⟩
    · exact ⟨⟨_, Heap.get?_push_size _ rfl, rfl, rfl⟩, hl1.push _⟩
    · rw [hz]
      simp only [List.mem_cons, List.not_mem_nil, or_false, not_or]
      exact ⟨Nat.ne_of_lt (Nat.lt_succ_self _), Nat.ne_of_gt hls⟩
    · intro b hb
      rw [hz] at hb
      rw [List.mem_singleton.mp hb]
      exact Nat.lt_succ_self _
    · intro i v hv
      have hv' : items.toList[i]? = some v := by
        rw [Array.getElem?_toList]
        exact hv
      exact strs_val hi hv'
end
/-! ### the rules -/
def rSetS (K : PySem.W.Frag) (P : Program) (w : World) : List V → Hp → VK → Prop := fun vs H Q => ∃ l, ∃ xs : List Str, vs = [.ref l] ∧ (SqL K H l (xs.map V.str) ∨ SqT K H l (xs.map V.str)) ∧ xs.length ≤ 1000 ∧
  ∀ p, H p = none → Q (.ref p) (upd H p (SetK P w p (inK (uq xs)) (uq xs).length))
theorem cr_setS {X : Cx} (hc : X.calm = true) : CallR X (.type "set") (rSetS X.K X.prog X.w) := by
  intro pins s σ H vs us Q I r h
  obtain ⟨l, xs, rfl, hq, hl, q⟩ := h
  rw [Vals.ref1 r]
  have hsc : xs.length + 1 < scanBound := by unfold scanBound; omega
  have fin : ∀ (h' : Heap) (tk : Nat), h'.SetOf (mixKind X.prog X.w) s.heap.objs.size (inK (uq xs)) (uq xs).length →
      (∀ b o, b < s.heap.objs.size → s.heap.get? b = some o → h'.get? b = some o) → EP X pins σ Q (.ref s.heap.objs.size) { s with heap := h', toks := tk } := fun h' tk new k =>
    ⟨.ref _, upd H s.heap.objs.size (SetK X.prog X.w s.heap.objs.size (inK (uq xs)) (uq xs).length), I.laid (t' := tk) (fun b u e => k b u (Heap.lt_size e) e) (Nat.le_refl _) (setK_new new), rfl, q _ (I.hok.fresh (Nat.le_refl _))⟩
  rcases hq with hq | hq
  · obtain ⟨its, rv, pl, hz⟩ := I.list hq
    exact set_call (I.ok.hd hc) (src_list pl.isList (by simpa using rv)) hsc fin
  · obtain ⟨its, rv, pl, hz⟩ := I.tuple hq
    exact set_call (I.ok.hd hc) (src_tuple pl (by simpa using rv)) hsc fin
def rLenK (P : Program) (w : World) : List V → Hp → VK → Prop := fun vs H Q => ∃ a S n, vs = [.ref a] ∧ H a = some (SetK P w a S n) ∧ n ≤ 1000000 ∧ Q (.int (n : Nat)) H
theorem call_lenK {X : Cx} : CallR X (.builtin "len") (rLenK X.prog X.w) := by
  intro pins s σ H vs us Q I r h
  obtain ⟨a, S, n, rfl, ha, hn, q⟩ := h
  rw [Vals.ref1 r]
  obtain ⟨o, es, ep, t, ho, hex, hd, _, _, _, hf, hn'⟩ := setK_get I ha
  refine call_len_set ho hex hd hf (by rw [hn']; omega) ⟨.int (n : Nat), H, I.tok _, ⟨_, by rw [hn']⟩, q⟩
section
variable {K : PySem.W.Frag} {b : List Addr} {σ : L2.St} {H H' : Hp} {ta : TE} {P : Program} {w : World}
theorem ed_lenSet {d : PyData} {xs : List Str} (ha : ED K b ta σ H d) (hd : d = .list (xs.map PyData.str) ∨ d = .tuple (xs.map PyData.str)) (hl : xs.length ≤ 1000) :
    ED K b (tCB (rLenK P w) (tCons (tCB (rSetS K P w) (tCons ta tNil)) tNil)) σ H (.int ((uq xs).length : Nat)) := fun H1 x1 Q q =>
  ha H1 x1 _ fun x H2 x2 hx => by
    have hx' := hx.dd
    have fin : ∀ a, (SqL K H2 a (xs.map V.str) ∨ SqT K H2 a (xs.map V.str)) → x = .ref a → tCB (rLenK P w) (tCons (tCB (rSetS K P w) (tCons (tC x) tNil)) tNil) σ H2 Q := fun a hs e => by
      subst e
      refine ⟨a, xs, rfl, hs, hl, fun p hp => ⟨p, _, _, rfl, upd_same, ?_, q _ _ (x2.trans (Ex.new hp)) (.int _)⟩⟩
      have := uq_length_le xs
      omega
    rcases hd with rfl | rfl
    · cases hx' with
      | lst h1 h2 =>
        rw [dps_strs h2] at h1
        exact fin _ (.inl h1) rfl
    · cases hx' with
      | tup h1 _ h2 =>
        rw [dps_strs h2] at h1
        exact fin _ (.inr h1) rfl
end
end Wr

set_option Elab.async false
set_option linter.all false
set_option maxRecDepth 100000
set_option maxHeartbeats 4000000
namespace Wr
open PySem PySem.Spec PyProof.Rows L2 Evl
theorem pe_tyN {X : Cx} {x : Str} {T : String} {pos : Pos} (hg : Gl X x) (hm : X.mg x = none) (hv : bootBuiltins x = some (.type T)) (hn : x ≠ "__name__" := by decide) (hd : (x == ("__debug__" : Str)) = false := by decide) : PE X (.Name x pos) (tC (.ty T)) := pe_bltn hg hm hv rfl hn hd
theorem bt_int : bootBuiltins "int" = some (.type "int") := by decide +kernel
theorem bt_bool : bootBuiltins "bool" = some (.type "bool") := by decide +kernel
theorem bt_str : bootBuiltins "str" = some (.type "str") := by decide +kernel
theorem bt_tuple : bootBuiltins "tuple" = some (.type "tuple") := by decide +kernel
theorem bt_list : bootBuiltins "list" = some (.type "list") := by decide +kernel
theorem bt_set : bootBuiltins "set" = some (.type "set") := by decide +kernel
theorem bb_isinstance : bootBuiltins "isinstance" = some (.builtin "isinstance") := by decide +kernel
theorem bb_len : bootBuiltins "len" = some (.builtin "len") := by decide +kernel
theorem bb_all : bootBuiltins "all" = some (.builtin "all") := by decide +kernel
theorem bb_abs : bootBuiltins "abs" = some (.builtin "abs") := by decide +kernel
theorem bb_max : bootBuiltins "max" = some (.builtin "max") := by decide +kernel
theorem bb_min : bootBuiltins "min" = some (.builtin "min") := by decide +kernel
theorem bb_repr : bootBuiltins "repr" = some (.builtin "repr") := by decide +kernel
theorem bb_sorted : bootBuiltins "sorted" = some (.builtin "sorted") := by decide +kernel
/-- what a def of one, two, three, four data takes -/
theorem one_of {K : PySem.W.Frag} {H : Hp} {vs : List V} {ds : List PyData} (h : DdAll K H vs ds) (hl : ds.length = 1) : ∃ v d, vs = [v] ∧ ds = [d] ∧ Dd K H v d := by
  match ds, hl, h with
  | [d], _, .cons h1 .nil => exact ⟨_, d, rfl, rfl, h1⟩
theorem two_of {K : PySem.W.Frag} {H : Hp} {vs : List V} {ds : List PyData} (h : DdAll K H vs ds) (hl : ds.length = 2) : ∃ v v2 d d2, vs = [v, v2] ∧ ds = [d, d2] ∧ Dd K H v d ∧ Dd K H v2 d2 := by
  match ds, hl, h with
  | [d, d2], _, .cons h1 (.cons h2 .nil) => exact ⟨_, _, d, d2, rfl, rfl, h1, h2⟩
theorem four_of {K : PySem.W.Frag} {H : Hp} {vs : List V} {ds : List PyData} (h : DdAll K H vs ds) (hl : ds.length = 4) : ∃ v v2 v3 v4 d d2 d3 d4, vs = [v, v2, v3, v4] ∧ ds = [d, d2, d3, d4] ∧ Dd K H v d ∧ Dd K H v2 d2 ∧ Dd K H v3 d3 ∧ Dd K H v4 d4 := by
  match ds, hl, h with
  | [d, d2, d3, d4], _, .cons h1 (.cons h2 (.cons h3 (.cons h4 .nil))) => exact ⟨_, _, _, _, d, d2, d3, d4, rfl, rfl, h1, h2, h3, h4⟩
theorem spP_len {K : PySem.W.Frag} {n : Nat} {pre : List PyData → Prop} {f : List PyData → PyData} (hl : ∀ ds, pre ds → ds.length = n) {vs : List V} {H : Hp} {Q : VK} {E : XK} (h : spP K pre f vs H Q E) : vs.length = n := by
  obtain ⟨b, ds, _, hd, hp, _⟩ := h
  rw [dps_len hd, hl ds hp]
/-- data that are small enough to be looked at -/
structure Nice (d : PyData) : Prop where
  sh : SeqAt.shaped d = true
end Wr

set_option Elab.async false
set_option linter.all false
set_option maxRecDepth 100000
set_option maxHeartbeats 4000000
namespace Wr
open PySem PySem.Spec PyProof.Rows L2 Evl
/-! ### data within bounds -/
def okD : Nat → PyData → Bool
  | _, .none => true
  | _, .bool _ => true
  | _, .int i => decide (i.natAbs < 10 ^ 45)
  | _, .str x => PyData.strOk x && decide (x.length ≤ 1000)
  | n + 1, .list ds => decide (ds.length ≤ 1000) && ds.all (okD n)
  | n + 1, .tuple ds => decide (ds.length ≤ 1000) && ds.all (okD n)
  | _, _ => false
theorem lay_all : ∀ {ds : List PyData}, (∀ d ∈ ds, d.canLay0 = true) → PyData.canLayAll0 ds = true
  | [], _ => by simp only [PyData.canLayAll0]
  | d :: ds, h => by
    simp only [PyData.canLayAll0, h d List.mem_cons_self, lay_all fun e he => h e (List.mem_cons_of_mem _ he), Bool.and_self]
theorem depth_all {n : Nat} : ∀ {ds : List PyData}, (∀ d ∈ ds, d.depth ≤ n) → PyData.depthAll ds ≤ n
  | [], _ => by simp only [PyData.depthAll]; exact Nat.zero_le _
  | d :: ds, h => by
    have h1 := h d List.mem_cons_self
    have h2 := depth_all fun e he => h e (List.mem_cons_of_mem _ he)
    simp only [PyData.depthAll]
    omega
theorem show_all : ∀ {ds : List PyData}, (∀ d ∈ ds, d.showable = true) → PyData.showableAll ds = true
  | [], _ => by simp only [PyData.showableAll]
  | d :: ds, h => by
    simp only [PyData.showableAll, h d List.mem_cons_self, show_all fun e he => h e (List.mem_cons_of_mem _ he), Bool.and_self]
theorem log_small {i : Int} (h : i.natAbs < 10 ^ 45) : i.natAbs.log2 < 1920 := by
  by_cases h0 : i.natAbs = 0
  · rw [h0]; decide
  · have h1 : i.natAbs < 2 ^ 1920 := Nat.lt_trans h (by decide)
    exact (Nat.log2_lt h0).mpr h1
theorem ok_facts : ∀ (n : Nat) (d : PyData), okD n d = true → d.canLay0 = true ∧ d.depth ≤ n ∧ d.showable = true
  | _, .none, _ => by refine ⟨by simp only [PyData.canLay0], by simp only [PyData.depth]; exact Nat.zero_le _, by simp only [PyData.showable]⟩
  | _, .bool _, _ => by refine ⟨by simp only [PyData.canLay0], by simp only [PyData.depth]; exact Nat.zero_le _, by simp only [PyData.showable]⟩
  | n, .int i, h => by
    refine ⟨by simp only [PyData.canLay0], by simp only [PyData.depth]; exact Nat.zero_le _, ?_⟩
    have h' : decide (i.natAbs < 10 ^ 45) = true := by
      cases n <;> exact h
    simp only [PyData.showable]
    exact decide_eq_true (log_small (of_decide_eq_true h'))
  | n, .str x, h => by
    have h' : (PyData.strOk x && decide (x.length ≤ 1000)) = true := by cases n <;> exact h
    refine ⟨?_, by simp only [PyData.depth]; exact Nat.zero_le _, by simp only [PyData.showable]⟩
    simp only [PyData.canLay0]
    exact (Bool.and_eq_true_iff.mp h').1
  | 0, .list ds, h => by cases h
  | 0, .tuple ds, h => by cases h
  | n + 1, .list ds, h => by
    have h' := List.all_eq_true.mp (Bool.and_eq_true_iff.mp (show (decide (ds.length ≤ 1000) && ds.all (okD n)) = true from h)).2
    have q := fun d hd => ok_facts n d (h' d hd)
    refine ⟨?_, ?_, ?_⟩
    · simp only [PyData.canLay0]
      exact lay_all fun d hd => (q d hd).1
    · simp only [PyData.depth]
      exact Nat.succ_le_succ (depth_all fun d hd => (q d hd).2.1)
    · simp only [PyData.showable]
      exact show_all fun d hd => (q d hd).2.2
  | n + 1, .tuple ds, h => by
    have h' := List.all_eq_true.mp (Bool.and_eq_true_iff.mp (show (decide (ds.length ≤ 1000) && ds.all (okD n)) = true from h)).2
    have q := fun d hd => ok_facts n d (h' d hd)
    refine ⟨?_, ?_, ?_⟩
    · simp only [PyData.canLay0]
      exact lay_all fun d hd => (q d hd).1
    · simp only [PyData.depth]
      exact Nat.succ_le_succ (depth_all fun d hd => (q d hd).2.1)
    · simp only [PyData.showable]
      exact show_all fun d hd => (q d hd).2.2
  | 0, .dict _, h => by cases h
  | _ + 1, .dict _, h => by cases h
theorem ok_shaped {n : Nat} {d : PyData} (h : okD n d = true) (hn : n ≤ 64 := by omega) : SeqAt.shaped d = true := by
  obtain ⟨h1, h2, _⟩ := ok_facts n d h
  show (d.canLay0 && decide (d.depth ≤ 64)) = true
  rw [h1, decide_eq_true (by omega)]
  rfl
theorem ok_items {n : Nat} {ds : List PyData} (h : okD (n + 1) (.tuple ds) = true) : ∀ d ∈ ds, okD n d = true :=
  List.all_eq_true.mp (Bool.and_eq_true_iff.mp (show (decide (ds.length ≤ 1000) && ds.all (okD n)) = true from h)).2
theorem ok_itemsL {n : Nat} {ds : List PyData} (h : okD (n + 1) (.list ds) = true) : ∀ d ∈ ds, okD n d = true :=
  List.all_eq_true.mp (Bool.and_eq_true_iff.mp (show (decide (ds.length ≤ 1000) && ds.all (okD n)) = true from h)).2
theorem ok_len {n : Nat} {ds : List PyData} (h : okD n (.tuple ds) = true) : ds.length ≤ 1000 := by
  cases n with
  | zero => cases h
  | succ n => exact of_decide_eq_true (Bool.and_eq_true_iff.mp (show (decide (ds.length ≤ 1000) && ds.all (okD n)) = true from h)).1
theorem ok_lenL {n : Nat} {ds : List PyData} (h : okD n (.list ds) = true) : ds.length ≤ 1000 := by
  cases n with
  | zero => cases h
  | succ n => exact of_decide_eq_true (Bool.and_eq_true_iff.mp (show (decide (ds.length ≤ 1000) && ds.all (okD n)) = true from h)).1
theorem ok_str {n : Nat} {x : Str} (h : okD n (.str x) = true) : x.length ≤ 1000 := by
  have h' : (PyData.strOk x && decide (x.length ≤ 1000)) = true := by cases n <;> exact h
  exact of_decide_eq_true (Bool.and_eq_true_iff.mp h').2
theorem ok_mono : ∀ (n : Nat) (d : PyData), okD n d = true → okD (n + 1) d = true
  | _, .none, _ => rfl
  | _, .bool _, _ => rfl
  | n, .int i, h => by cases n <;> exact h
  | n, .str x, h => by cases n <;> exact h
  | 0, .list ds, h => by cases h
  | 0, .tuple ds, h => by cases h
  | n + 1, .list ds, h => by
    have h' : (decide (ds.length ≤ 1000) && ds.all (okD n)) = true := h
    show (decide (ds.length ≤ 1000) && ds.all (okD (n + 1))) = true
    rw [Bool.and_eq_true] at h' ⊢
    exact ⟨h'.1, List.all_eq_true.mpr fun d hd => ok_mono n d (List.all_eq_true.mp h'.2 d hd)⟩
  | n + 1, .tuple ds, h => by
    have h' : (decide (ds.length ≤ 1000) && ds.all (okD n)) = true := h
    show (decide (ds.length ≤ 1000) && ds.all (okD (n + 1))) = true
    rw [Bool.and_eq_true] at h' ⊢
    exact ⟨h'.1, List.all_eq_true.mpr fun d hd => ok_mono n d (List.all_eq_true.mp h'.2 d hd)⟩
  | 0, .dict _, h => by cases h
  | _ + 1, .dict _, h => by cases h
theorem ok_up {n m : Nat} {d : PyData} (h : okD n d = true) (hm : n ≤ m) : okD m d = true := by
  obtain ⟨k, rfl⟩ := Nat.exists_eq_add_of_le hm
  induction k with
  | zero => exact h
  | succ k ih => exact ok_mono _ _ (ih (Nat.le_add_right _ _))
theorem isD_tuple {d : PyData} (h : isD "tuple" d = true) : ∃ ds, d = .tuple ds := by
  cases d <;> first | exact ⟨_, rfl⟩ | (simp [isD, dTy, tyIs] at h)
theorem isD_list {d : PyData} (h : isD "list" d = true) : ∃ ds, d = .list ds := by
  cases d <;> first | exact ⟨_, rfl⟩ | (simp [isD, dTy, tyIs] at h)
theorem isD_str {d : PyData} (h : isD "str" d = true) : ∃ x, d = .str x := by
  cases d <;> first | exact ⟨_, rfl⟩ | (simp [isD, dTy, tyIs] at h)
/-! ### the program's own functions, on data -/
def wholeD (d : PyData) : Bool := isD "int" d && !isD "bool" d
theorem wholeD_int {d : PyData} (h : wholeD d = true) : ∃ i, d = .int i := by
  cases d <;> first | exact ⟨_, rfl⟩ | (simp [wholeD, isD, dTy, tyIs] at h)
def worthD (d : PyData) : Bool := match d with
  | .int i => decide (-1000000000000 ≤ i) && decide (i ≤ 1000000000000)
  | _ => false
def indexD (d : PyData) (n : Int) : Bool := match d with
  | .int i => decide (0 ≤ i) && decide (i < n)
  | _ => false
def nameS (x : Str) : Bool := decide (x.length ≤ 8) && (Txt.isascii x && (Txt.isalpha x && Txt.islower x))
def nameD (d : PyData) : Bool := match d with
  | .str x => nameS x
  | _ => false
def strsOf (ds : List PyData) : List Str := ds.filterMap fun d => match d with
  | .str x => some x
  | _ => none
def unlikeS (xs : List Str) : Bool := decide ((uq xs).length = xs.length)
def namesD (d : PyData) : Bool := match d with
  | .tuple ds => decide (ds.length ≤ 3) && (ds.all nameD && unlikeS (strsOf ds))
  | _ => false
def headedD (d : PyData) : Bool := match d with
  | .tuple [a, c, _] => nameD a && namesD c
  | _ => false
def fst (d : PyData) : PyData := match d with
  | .tuple (a :: _) => a
  | _ => .none
def thd (d : PyData) : PyData := match d with
  | .tuple (_ :: _ :: a :: _) => a
  | _ => .none
def headedAll (d : PyData) (most : Int) : Bool := match d with
  | .tuple ds => (decide (1 ≤ ds.length) && decide ((ds.length : Int) ≤ most)) && (ds.all headedD && unlikeS (strsOf (ds.map fst)))
  | _ => false
def loneW : List Str := ["add", "less", "times", "over", "same", "below", "twin", "swap", "away", "say", "back", "throw", "done", "lead", "turn"]
def nameW : List Str := ["get", "set", "look", "change"]
def rowW : List Str := ["go", "if", "try"]
def rowD (d : PyData) (at_ many : Int) (called : List Str) : Bool := match d with
  | .tuple [a] => inD a (loneW.map .str)
  | .tuple [a, c] =>
    if PyData.eqv a (.str "put") = true then worthD c
    else if inD a (nameW.map .str) = true then nameD c
    else if PyData.eqv a (.str "call") = true then inD c (called.map .str)
    else inD a (rowW.map .str) && (indexD c many && !(PyData.eqv a (.str "try") && PyData.eqv c (.int (at_ + 1))))
  | _ => false
def rowsD (d : PyData) (called : List Str) : Bool := match d with
  | .tuple ds => (decide (1 ≤ ds.length) && decide (ds.length ≤ 60)) && ((List.range ds.length).all fun i => rowD (ds.getD i .none) i ds.length called)
  | _ => false
def progD (d : PyData) : Bool := match d with
  | .tuple ds => headedAll (.tuple ds) 8 && ds.all fun p => rowsD (thd p) (strsOf (ds.map fst))
  | _ => false
end Wr

set_option Elab.async false
set_option linter.all false
set_option maxRecDepth 100000
set_option maxHeartbeats 4000000
namespace Wr
open PySem PySem.Spec PyProof.Rows L2 Evl
section
variable {K : PySem.W.Frag} {b : List Addr} {σ : L2.St} {H H' : Hp} {ta te : TE} {tt : TT} {d : PyData} {ds : List PyData}
theorem et_n {c : Bool} (h : EvT tt σ H c) : EvT (tNot tt) σ H (!c) := fun H1 x Q q => h H1 x _ fun H2 x2 => q H2 x2
theorem ed_m0 {C : Str → Prop} {g : Str → V} {x : Str} {z : PyData} (ha : ED K b ta σ H (.str x)) (hc : C x) (hz : ∀ H', Dq K b H' (g x) z) : ED K b (tBM0 K "str" (fun x xs H Q => ∃ a, x = .str a ∧ xs = [] ∧ C a ∧ Q (g a) H) ta) σ H z := fun H1 x1 Q q =>
  ha H1 x1 _ fun v H2 x2 hv => by
    cases hv
    exact ⟨rfl, x, rfl, rfl, hc, q _ H2 x2 (hz _)⟩
end
theorem pe_gI {X : Cx} {x : Str} {i : Int} {t : Tok} {pos : Pos} (hm : X.mg x = some (.int i t)) (hg : Gl X x := by rfl) (hd : (x == ("__debug__" : Str)) = false := by decide) : PE X (.Name x pos) (tC (.int i)) := pe_glob hg hm ⟨t, rfl⟩ hd
theorem pe_gR {X : Cx} {x : Str} {a : Addr} {pos : Pos} (hm : X.mg x = some (.ref a)) (hg : Gl X x := by rfl) (hd : (x == ("__debug__" : Str)) = false := by decide) : PE X (.Name x pos) (tC (.ref a)) := pe_glob hg hm rfl hd
/-- the built-ins that the text uses are still the built-ins -/
structure Blt (mg : Str → Option Value) : Prop where
  isi : mg "isinstance" = none
  len : mg "len" = none
  all : mg "all" = none
  enum : mg "enumerate" = none
  set : mg "set" = none
  int : mg "int" = none
  bool : mg "bool" = none
  str : mg "str" = none
  tuple : mg "tuple" = none
  list : mg "list" = none
  range : mg "range" = none
/-- a def of the text -/
structure Def (K : PySem.W.Frag) (mg : Str → Option Value) (x : Str) (st : Stmt) (ps : List Str) (f : Addr) (fd : FuncData) : Prop where
  F : Fun K x x st f fd
  b : Binds K fd ps []
  m : mg x = some (.ref f)
theorem pe_cd {X : Cx} {x : Str} {st : Stmt} {k : Nat} {ps : List Str} {sp : Sp} {f : Addr} {fd : FuncData} {p pos : Pos} {e : Expr} {es : List Expr} {t : TA} (D : Def X.K X.mg x st ps f fd) (G : FnOk X.prog X.w X.K X.mg X.base CX0 k f fd ps sp) (hr : Room k X.A) (ha : PA X (e :: es) t)
    (hg : Gl X x := by rfl) (hdb : (x == ("__debug__" : Str)) = false := by decide) (he : starEach (e :: es) X.env = (false, eval e X.env) :: starEach es X.env := by rfl) (hpl : (backTo pos (starEach es X.env)).any (·.1) = false := by rfl) :
    PE X (.Call (.Name x p) (e :: es) [] pos) (tCall sp [] E0 t) := pe_call G hr hg D.m D.F.kp D.b .nil pass0 ha hdb he hpl
def topS (i : Nat) : Stmt := PySem.Challenge.pw_watchedrun_k03_parts_and_rows.main.body.getD i (.Pass ⟨0, 0, 0, 0⟩)
abbrev s_is_whole : Stmt := topS 4
abbrev s_is_worth : Stmt := topS 5
abbrev s_is_index : Stmt := topS 6
abbrev s_is_name : Stmt := topS 7
abbrev s_are_names : Stmt := topS 8
abbrev s_are_unlike : Stmt := topS 9
abbrev s_is_headed : Stmt := topS 10
abbrev s_are_headed : Stmt := topS 11
theorem sc_is_whole : FnScope ["thing"] ["thing"] (defScope s_is_whole) := ⟨rfl, rfl, rfl, by decide +kernel, rfl, by decide +kernel, by decide +kernel⟩
theorem sc_is_worth : FnScope ["thing"] ["thing"] (defScope s_is_worth) := ⟨rfl, rfl, rfl, by decide +kernel, rfl, by decide +kernel, by decide +kernel⟩
theorem sc_is_index : FnScope ["thing", "many"] ["thing", "many"] (defScope s_is_index) := ⟨rfl, rfl, rfl, by decide +kernel, rfl, by decide +kernel, by decide +kernel⟩
theorem sc_is_name : FnScope ["thing"] ["thing"] (defScope s_is_name) := ⟨rfl, rfl, rfl, by decide +kernel, rfl, by decide +kernel, by decide +kernel⟩
theorem sc_are_names : FnScope ["thing", "name"] ["thing"] (defScope s_are_names) := ⟨rfl, rfl, rfl, by decide +kernel, rfl, by decide +kernel, by decide +kernel⟩
theorem sc_are_unlike : FnScope ["names"] ["names"] (defScope s_are_unlike) := ⟨rfl, rfl, rfl, by decide +kernel, rfl, by decide +kernel, by decide +kernel⟩
theorem sc_is_headed : FnScope ["thing"] ["thing"] (defScope s_is_headed) := ⟨rfl, rfl, rfl, by decide +kernel, rfl, by decide +kernel, by decide +kernel⟩
theorem sc_are_headed : FnScope ["thing", "most", "one"] ["thing", "most"] (defScope s_are_headed) := ⟨rfl, rfl, rfl, by decide +kernel, rfl, by decide +kernel, by decide +kernel⟩
/-- one datum, a truth -/
def F1 (g : PyData → Bool) (ds : List PyData) : PyData := match ds with
  | [d] => .bool (g d)
  | _ => .none
def F2 (g : PyData → PyData → Bool) (ds : List PyData) : PyData := match ds with
  | [d, e] => .bool (g d e)
  | _ => .none
def intOf (d : PyData) : Int := match d with
  | .int i => i
  | _ => 0
section
variable {P : Program} {w : World} {K : PySem.W.Frag} {mg : Str → Option Value} {base : Heap} {f g g2 g3 : Addr} {fd gd gd2 gd3 : FuncData}
theorem ok_is_whole (D : Def K mg "is_whole" s_is_whole ["thing"] f fd) (B : Blt mg) : FnOk P w K mg base CX0 1 f fd ["thing"] (spP K (fun ds => ds.length = 1) (F1 wholeD)) := by
  refine D.F.ok sc_is_whole (fun vs H Q E h => spP_len (fun _ h => h) h) (fun cdv A outer s H vs Q E hr h => ?_)
  obtain ⟨b, ds, kn, hd, hp, q⟩ := h
  obtain ⟨v, d, rfl, rfl, h1⟩ := one_of hd hp
  refine ⟨_, pss_one (ps_ret (pe_and (pe_callB call_isi rfl B.isi bb_isinstance (pa_cons (pv 0) (pa_cons (pe_tyN rfl B.int bt_int) pa_nil)))
    (pe_one (pe_not (pe_callB call_isi rfl B.isi bb_isinstance (pa_cons (pv 0) (pa_cons (pe_tyN rfl B.bool bt_bool) pa_nil))))))), ?_⟩
  exact SR.fin (sr_ret (ed_andB (ed_isi (.inl rfl) (ed_var rfl h1)) fun _ => ed_not (ed_isi (.inr (.inl rfl)) (ed_var rfl h1)))) q
theorem ok_is_worth (D : Def K mg "is_worth" s_is_worth ["thing"] f fd) (D1 : Def K mg "is_whole" s_is_whole ["thing"] g gd) (B : Blt mg) {t : Tok} (mW : mg "MOST_WORTH" = some (.int 1000000000000 t)) :
    FnOk P w K mg base CX0 2 f fd ["thing"] (spP K (fun ds => ds.length = 1) (F1 worthD)) := by
  refine D.F.ok sc_is_worth (fun vs H Q E h => spP_len (fun _ h => h) h) (fun cdv A outer s H vs Q E hr h => ?_)
  obtain ⟨b, ds, kn, hd, hp, q⟩ := h
  obtain ⟨v, d, rfl, rfl, h1⟩ := one_of hd hp
  refine ⟨_, pss_one (ps_ret (pe_and (pe_cd D1 (ok_is_whole D1 B) hr (pa_cons (pv 0) pa_nil))
    (pe_one (pe_chain op_le op_le (pe_un un_neg (pe_gI mW)) (pv 0) (pe_gI mW))))), ?_⟩
  cases hw : wholeD d with
  | false =>
    refine SR.fin (sr_ret ((ed_and (d := .none) (c := wholeD d) (ed_call kn (ea_cons (ed_var rfl h1) ea_nil) (by rfl)) fun h => ?_).to ?_)) q
    · rw [hw] at h; cases h
    · rw [hw]
      have : worthD d = false := by
        cases d <;> first | rfl | (simp [wholeD, isD, dTy, tyIs] at hw)
      show PyData.bool false = .bool (worthD d)
      rw [this]
  | true =>
    obtain ⟨i, rfl⟩ := wholeD_int hw
    refine SR.fin (sr_ret ((ed_andB (c := wholeD (.int i)) (ed_call kn (ea_cons (ed_var rfl h1) ea_nil) (by rfl)) fun _ => ed_chain (ed_neg (ed_c (.int _))) (ed_var rfl h1) (ed_c (.int _))).to ?_)) q
    rw [hw]
    rfl
theorem ok_is_index (D : Def K mg "is_index" s_is_index ["thing", "many"] f fd) (D1 : Def K mg "is_whole" s_is_whole ["thing"] g gd) (B : Blt mg) :
    FnOk P w K mg base CX0 2 f fd ["thing", "many"] (spP K (fun ds => ds.length = 2 ∧ ∀ d n, ds = [d, n] → ∃ i, n = .int i) (F2 fun d n => indexD d (intOf n))) := by
  refine D.F.ok sc_is_index (fun vs H Q E h => spP_len (fun _ h => h.1) h) (fun cdv A outer s H vs Q E hr h => ?_)
  obtain ⟨b, ds, kn, hd, ⟨hp, hp2⟩, q⟩ := h
  obtain ⟨v, v2, d, n, rfl, rfl, h1, h2⟩ := two_of hd hp
  obtain ⟨m, rfl⟩ := hp2 d n rfl
  refine ⟨_, pss_one (ps_ret (pe_and (pe_cd D1 (ok_is_whole D1 B) hr (pa_cons (pv 0) pa_nil))
    (pe_one (pe_chain op_le op_lt pe_int (pv 0) (pv 1))))), ?_⟩
  cases hw : wholeD d with
  | false =>
    refine SR.fin (sr_ret ((ed_and (d := .none) (c := wholeD d) (ed_call kn (ea_cons (ed_var rfl h1) ea_nil) (by rfl)) fun h => ?_).to ?_)) q
    · rw [hw] at h; cases h
    · rw [hw]
      have : indexD d (intOf (.int m)) = false := by
        cases d <;> first | rfl | (simp [wholeD, isD, dTy, tyIs] at hw)
      show PyData.bool false = .bool (indexD d (intOf (.int m)))
      rw [this]
  | true =>
    obtain ⟨i, rfl⟩ := wholeD_int hw
    refine SR.fin (sr_ret ((ed_andB (c := wholeD (.int i)) (ed_call kn (ea_cons (ed_var rfl h1) ea_nil) (by rfl)) fun _ => ed_chain ed_int (ed_var rfl h1) (ed_var rfl h2)).to ?_)) q
    rw [hw]
    rfl
theorem ok_is_name (D : Def K mg "is_name" s_is_name ["thing"] f fd) (B : Blt mg) {t : Tok} (mL : mg "MOST_LETTERS" = some (.int 8 t)) :
    FnOk P w K mg base CX0 1 f fd ["thing"] (spP K (fun ds => ds.length = 1 ∧ ∀ d, ds = [d] → okD 30 d = true) (F1 nameD)) := by
  refine D.F.ok sc_is_name (fun vs H Q E h => spP_len (fun _ h => h.1) h) (fun cdv A outer s H vs Q E hr h => ?_)
  obtain ⟨b, ds, kn, hd, ⟨hp, hok⟩, q⟩ := h
  obtain ⟨v, d, rfl, rfl, h1⟩ := one_of hd hp
  have hok := hok d rfl
  refine ⟨_, pss_cons (ps_if (PW.pt (pw_or (pt_not (pt_val (pe_callB call_isi rfl B.isi bb_isinstance (pa_cons (pv 0) (pa_cons (pe_tyN rfl B.str bt_str) pa_nil)))))
      (pw_or1 (pt_cmpR op_gt (pe_callB call_lenD1 rfl B.len bb_len (pa_cons (pv 0) pa_nil)) (pe_gI mL) (nomark _))))) (pss_one (ps_ret pe_bl)) pss_nil)
    (pss_one (ps_ret (pe_and (pe_bm0 PySem.F.plainAttrs_str PySem.F.slot_str_isascii PySem.F.type_str_isascii mt_isascii (pv 0))
      (pe_and (pe_bm0 PySem.F.plainAttrs_str PySem.F.slot_str_isalpha PySem.F.type_str_isalpha mt_isalpha (pv 0))
      (pe_one (pe_bm0 PySem.F.plainAttrs_str PySem.F.slot_str_islower PySem.F.type_str_islower mt_islower (pv 0))))))), ?_⟩
  have t1 := et_n (et_b (ed_isi (K := K) (b := b) (σ := start ["thing"] [v]) (H := H) (T := "str") (.inr (.inr (.inl rfl))) (ed_var (i := 0) rfl h1)))
  cases hs : isD "str" d with
  | false =>
    rw [hs] at t1
    refine SR.fin ((sr_if (e := .none) (et_or (b := false) t1 fun h => nomatch h) (fun _ => sr_ret ed_bl) fun h => nomatch h).to ?_) q
    have : nameD d = false := by
      cases d <;> first | rfl | (simp [isD, dTy, tyIs] at hs)
    show PyData.bool false = .bool (nameD d)
    rw [this]
  | true =>
    obtain ⟨x, rfl⟩ := isD_str hs
    have hl := ok_str hok
    rw [hs] at t1
    refine SR.fin ((sr_if (et_or t1 fun _ => et_t (ed_gt (ed_len (ed_var rfl h1) (.inl hs) fun y e => by cases e; exact Nat.le_trans hl (by decide)) (ed_c (.int _)))) (fun _ => sr_ret ed_bl)
      fun _ => sr_ret (ed_andB (ed_m0 (ed_var rfl h1) trivial fun _ => .bl _) fun _ => ed_andB (ed_m0 (ed_var rfl h1) trivial fun _ => .bl _) fun _ => ed_m0 (ed_var rfl h1) trivial fun _ => .bl _)).to ?_) q
    show _ = PyData.bool (nameS x)
    unfold nameS
    by_cases h8 : x.length ≤ 8
    · have e1 : decide ((8 : Int) < (lenD (.str x) : Nat)) = false := decide_eq_false (by show ¬ (8 : Int) < (x.length : Nat); omega)
      rw [e1, decide_eq_true h8]
      rfl
    · have e1 : decide ((8 : Int) < (lenD (.str x) : Nat)) = true := decide_eq_true (by show (8 : Int) < (x.length : Nat); omega)
      rw [e1, decide_eq_false h8]
      rfl
end
end Wr

set_option Elab.async false
set_option linter.all false
set_option maxRecDepth 100000
set_option maxHeartbeats 4000000
namespace Wr
open PySem PySem.Spec PyProof.Rows L2 Evl
theorem hu64 {A : Around} {k : Nat} (hr : Room k A) : A.units + 64 < cLine := hr.units
theorem hu65 {A : Around} {k : Nat} (hr : Room k A) : A.units + 65 < cLine := by have := hr.un; omega
section
variable {K : PySem.W.Frag} {b : List Addr} {σ : L2.St} {H H' : Hp} {ta te : TE} {tt : TT} {d : PyData} {ds : List PyData}
theorem all_map {α : Type} (xs : List α) (g : α → Bool) : (xs.map g).all id = xs.all g := by
  rw [List.all_map]
  rfl
theorem ed_allT {k : Nat} {g : PyData → Bool} (kn : Kn b H) (ha : ED K b ta σ H (.tuple ds)) (hl : ds.length ≤ 1000)
    (he : ∀ d v H3, d ∈ ds → Ex H H3 → Dq K b H3 v d → ED K b te ((wipe σ [k]).set k (some v)) H3 (.bool (g d))) :
    ED K b (tCB (rAll K) (tCons (tLc (iTup K ta) (gName k) tYes te [k]) tNil)) σ H (.bool (ds.all g)) := by
  have h := ed_lcT1 (K := K) (b := b) (k := k) (f := fun d => .bool (g d)) kn ha (Nat.lt_of_le_of_lt hl (by decide)) he fun _ _ => rfl
  have e : ds.map (fun d => PyData.bool (g d)) = (ds.map g).map PyData.bool := by rw [List.map_map]; rfl
  exact (ed_all (h.to (by rw [e]))).to (by rw [all_map])
theorem eqv_int (i j : Int) : PyData.eqv (.int i) (.int j) = (i == j) := by simp only [PyData.eqv]
theorem sh_int (i : Int) : SeqAt.shaped (.int i) = true := by
  show ((PyData.int i).canLay0 && decide ((PyData.int i).depth ≤ 64)) = true
  simp only [PyData.canLay0, PyData.depth]
  rfl
theorem sh_bool (i : Bool) : SeqAt.shaped (.bool i) = true := by
  show ((PyData.bool i).canLay0 && decide ((PyData.bool i).depth ≤ 64)) = true
  simp only [PyData.canLay0, PyData.depth]
  rfl
theorem sh_none : SeqAt.shaped .none = true := by
  show (PyData.none.canLay0 && decide (PyData.none.depth ≤ 64)) = true
  simp only [PyData.canLay0, PyData.depth]
  rfl
theorem strsOf_map (xs : List Str) : strsOf (xs.map PyData.str) = xs := by
  induction xs with
  | nil => rfl
  | cons x r ih =>
    show (x :: strsOf (r.map PyData.str)) = x :: r
    rw [ih]
theorem map_strsOf : ∀ {ds : List PyData}, ds.all (isD "str") = true → (strsOf ds).map PyData.str = ds
  | [], _ => rfl
  | d :: ds, h => by
    rw [List.all_cons, Bool.and_eq_true] at h
    obtain ⟨x, rfl⟩ := isD_str h.1
    show PyData.str x :: (strsOf ds).map PyData.str = .str x :: ds
    rw [map_strsOf h.2]
theorem nameD_str {d : PyData} (h : nameD d = true) : isD "str" d = true := by
  cases d <;> first | rfl | cases h
theorem names_strs {ds : List PyData} (h : ds.all nameD = true) : ds.all (isD "str") = true :=
  List.all_eq_true.mpr fun d hd => nameD_str (List.all_eq_true.mp h d hd)
theorem strsOf_len {ds : List PyData} : (strsOf ds).length ≤ ds.length := List.length_filterMap_le _ _
end
def unlikeD (d : PyData) : Bool := match d with
  | .tuple ds => unlikeS (strsOf ds)
  | .list ds => unlikeS (strsOf ds)
  | _ => false
def StrSeq (d : PyData) : Prop := ∃ xs : List Str, xs.length ≤ 1000 ∧ (d = .list (xs.map PyData.str) ∨ d = .tuple (xs.map PyData.str))
section
variable {P : Program} {w : World} {K : PySem.W.Frag} {mg : Str → Option Value} {base : Heap} {f g g2 g3 : Addr} {fd gd gd2 gd3 : FuncData}
theorem ok_are_unlike (D : Def K mg "are_unlike" s_are_unlike ["names"] f fd) (B : Blt mg) :
    FnOk P w K mg base CX0 1 f fd ["names"] (spP K (fun ds => ds.length = 1 ∧ ∀ d, ds = [d] → StrSeq d) (F1 unlikeD)) := by
  refine D.F.ok sc_are_unlike (fun vs H Q E h => spP_len (fun _ h => h.1) h) (fun cdv A outer s H vs Q E hr h => ?_)
  obtain ⟨b, ds, kn, hd, ⟨hp, hp2⟩, q⟩ := h
  obtain ⟨v, d, rfl, rfl, h1⟩ := one_of hd hp
  obtain ⟨xs, hl, hx⟩ := hp2 d rfl
  refine ⟨_, pss_one (ps_ret (pe_cmpR (op_eqD (hu64 hr)) (pe_callB call_lenK rfl B.len bb_len (pa_cons (pe_callTy (cr_setS rfl) rfl B.set bt_set (pa_cons (pv 0) pa_nil)) pa_nil))
    (pe_callB call_lenD1 rfl B.len bb_len (pa_cons (pv 0) pa_nil)) (nomark _))), ?_⟩
  have hk : isD "str" d = true ∨ isD "list" d = true ∨ isD "tuple" d = true := by
    rcases hx with rfl | rfl
    · exact .inr (.inl rfl)
    · exact .inr (.inr rfl)
  have hn : ∀ x, d = .str x → x.length ≤ sizeLine := by
    rcases hx with rfl | rfl <;> intro x e <;> cases e
  refine SR.fin (sr_ret ((ed_eq (ed_lenSet (ed_var rfl h1) hx hl) (ed_len (ed_var rfl h1) hk hn) (sh_int _) (sh_int _)).to ?_)) q
  have e1 : lenD d = xs.length := by
    rcases hx with rfl | rfl <;> exact List.length_map _
  have e2 : unlikeD d = unlikeS xs := by
    rcases hx with rfl | rfl <;> (show unlikeS (strsOf (xs.map PyData.str)) = _; rw [strsOf_map])
  show _ = PyData.bool (unlikeD d)
  rw [e1, e2, eqv_int]
  unfold unlikeS
  by_cases h : (uq xs).length = xs.length
  · rw [h, decide_eq_true rfl, beq_self_eq_true]
  · have h' : ((uq xs).length : Int) ≠ (xs.length : Int) := by omega
    rw [decide_eq_false h, beq_eq_false_iff_ne.mpr h']
theorem ok_are_names (D : Def K mg "are_names" s_are_names ["thing"] f fd) (D1 : Def K mg "is_name" s_is_name ["thing"] g gd) (D2 : Def K mg "are_unlike" s_are_unlike ["names"] g2 gd2) (B : Blt mg) {t t2 : Tok} (mL : mg "MOST_LETTERS" = some (.int 8 t)) (mN : mg "MOST_NAMES" = some (.int 3 t2)) :
    FnOk P w K mg base CX0 2 f fd ["thing"] (spP K (fun ds => ds.length = 1 ∧ ∀ d, ds = [d] → okD 30 d = true) (F1 namesD)) := by
  refine D.F.ok sc_are_names (fun vs H Q E h => spP_len (fun _ h => h.1) h) (fun cdv A outer s H vs Q E hr h => ?_)
  obtain ⟨b, ds, kn, hd, ⟨hp, hok⟩, q⟩ := h
  obtain ⟨v, d, rfl, rfl, h1⟩ := one_of hd hp
  have hok := hok d rfl
  refine ⟨_, pss_cons (ps_if (PW.pt (pw_or (pt_not (pt_val (pe_callB call_isi rfl B.isi bb_isinstance (pa_cons (pv 0) (pa_cons (pe_tyN rfl B.tuple bt_tuple) pa_nil)))))
      (pw_or1 (pt_cmpR op_gt (pe_callB call_lenD1 rfl B.len bb_len (pa_cons (pv 0) pa_nil)) (pe_gI mN) (nomark _))))) (pss_one (ps_ret pe_bl)) pss_nil)
    (pss_one (ps_ret (pe_and (pe_callB (cr_all rfl) rfl B.all bb_all (pa_cons
      (pe_lc (own := [("name", 1)]) (g := gName 1) (tt := tYes) rfl sc_are_names.nd (pi_tup (pv 0)) (blkOk_by (N := ["thing", "name"]) (sc := defScope s_are_names) (by decide +kernel)) (fun _ _ _ _ _ => pg_name (i := 1) sc_are_names.nd rfl (Or.inl rfl)) (fun _ _ _ _ _ => pts_nil)
        (fun _ _ _ _ _ => pe_cd D1 (ok_is_name D1 B mL) hr (pa_cons (pv 1) pa_nil))) pa_nil))
      (pe_one (pe_cd D2 (ok_are_unlike D2 B) hr (pa_cons (pv 0) pa_nil)))))), ?_⟩
  have t1 := et_n (et_b (ed_isi (K := K) (b := b) (σ := start ["thing", "name"] [v]) (H := H) (T := "tuple") (.inr (.inr (.inr (.inl rfl)))) (ed_var (i := 0) rfl h1)))
  cases hs : isD "tuple" d with
  | false =>
    rw [hs] at t1
    refine SR.fin ((sr_if (e := .none) (et_or (b := false) t1 fun h => nomatch h) (fun _ => sr_ret ed_bl) fun h => nomatch h).to ?_) q
    have : namesD d = false := by
      cases d <;> first | rfl | (simp [isD, dTy, tyIs] at hs)
    show PyData.bool false = .bool (namesD d)
    rw [this]
  | true =>
    obtain ⟨ds, rfl⟩ := isD_tuple hs
    rw [hs] at t1
    have hlen := ok_len hok
    have tl := et_or t1 fun _ => et_t (ed_gt (K := K) (b := b) (ed_len (ed_var (i := 0) rfl h1) (.inr (.inr hs)) fun y e => by cases e) (ed_c (v := .int 3) (.int 3)))
    refine SR.fin ((sr_if tl (fun _ => sr_ret ed_bl) fun hc => sr_ret (ed_andB (k := unlikeS (strsOf ds)) (ed_allT (g := nameD) kn (ed_var rfl h1) hlen fun e v' H3 he x3 hv => ed_call (kn.up x3) (ea_cons (ed_var rfl hv) ea_nil) (by exact ⟨rfl, fun e' h' => by cases h'; exact ok_up (ok_items (n := 29) hok e he) (by omega)⟩)) fun ha => ?_)).to ?_) q
    · have e1 := map_strsOf (names_strs ha)
      refine (ed_call (K := K) (f := F1 unlikeD) kn (ea_cons (ed_var (i := 0) rfl h1) ea_nil) ?_).to rfl
      refine ⟨rfl, fun e' h' => ?_⟩
      cases h'
      exact ⟨strsOf ds, Nat.le_trans strsOf_len hlen, .inr (by rw [e1])⟩
    · show _ = PyData.bool (decide (ds.length ≤ 3) && (ds.all nameD && unlikeS (strsOf ds)))
      by_cases h3 : ds.length ≤ 3
      · have e1 : decide ((3 : Int) < (lenD (.tuple ds) : Nat)) = false := decide_eq_false (by show ¬ (3 : Int) < (ds.length : Nat); omega)
        rw [e1, decide_eq_true h3]
        rfl
      · have e1 : decide ((3 : Int) < (lenD (.tuple ds) : Nat)) = true := decide_eq_true (by show (3 : Int) < (ds.length : Nat); omega)
        rw [e1, decide_eq_false h3]
        rfl
end
end Wr

set_option Elab.async false
set_option linter.all false
set_option maxRecDepth 100000
set_option maxHeartbeats 4000000
namespace Wr
open PySem PySem.Spec PyProof.Rows L2 Evl
abbrev s_is_program : Stmt := topS 32
abbrev s_are_rows : Stmt := topS 33
abbrev s_is_row : Stmt := topS 34
theorem sc_is_program : FnScope ["thing", "called", "part"] ["thing"] (defScope s_is_program) := ⟨rfl, rfl, rfl, by decide +kernel, rfl, by decide +kernel, by decide +kernel⟩
theorem sc_are_rows : FnScope ["thing", "called", "at", "row"] ["thing", "called"] (defScope s_are_rows) := ⟨rfl, rfl, rfl, by decide +kernel, rfl, by decide +kernel, by decide +kernel⟩
theorem sc_is_row : FnScope ["thing", "at", "many", "called", "word", "told"] ["thing", "at", "many", "called"] (defScope s_is_row) := ⟨rfl, rfl, rfl, by decide +kernel, rfl, by decide +kernel, by decide +kernel⟩
section
variable {K : PySem.W.Frag} {b : List Addr} {σ : L2.St} {H H' : Hp} {ta te : TE} {tt : TT} {ts : TS} {d a c : PyData} {ds : List PyData}
theorem sr_unpack2 {i j : Nat} (h : ED K b te σ H (.tuple [a, c])) (k : ∀ v1 v2 H', Ex H H' → Dq K b H' v1 a → Dq K b H' v2 c → SR K b ts ((σ.set i (some v1)).set j (some v2)) H' d) :
    SR K b (tSeq (tAsg te (gTup K 2 (gCons (gName i) (gCons (gName j) gNil)))) ts) σ H d := fun H1 x1 D q =>
  h H1 x1 _ fun v H2 x2 hv => by
    cases hv with
    | tup h1 _ h2 =>
      cases h2 with
      | cons p1 p2 =>
        cases p2 with
        | cons p3 p4 =>
          cases p4
          exact ⟨_, _, rfl, ex_t hid_le h1, rfl, _, _, rfl, _, _, rfl, rfl, k _ _ H2 (x1.trans x2) p1 p3 H2 (Ex.refl H2) D fun z H4 x4 hz => q _ H4 (x2.trans x4) hz⟩
/-- [.. for i, x in enumerate(tuple)], flat items -/
theorem ed_lcE {k1 k2 : Nat} {f : Nat → PyData → PyData} (kn : Kn b H) (ha : ED K b ta σ H (.tuple ds)) (hl : ds.length < sizeLine)
    (hw : ∀ x y, wipe (((wipe σ [k1, k2]).set k1 x).set k2 y) [k1, k2] = wipe σ [k1, k2])
    (he : ∀ i d v H3, ds[i]? = some d → Ex H H3 → Dq K b H3 v d → ED K b te (((wipe σ [k1, k2]).set k1 (some (.int (i : Nat)))).set k2 (some v)) H3 (f i d)) (hf : ∀ i d, ds[i]? = some d → flatP (f i d) = true) :
    ED K b (tLc (iEnumT K (tCons ta tNil)) (gTup K 2 (gCons (gName k1) (gCons (gName k2) gNil))) tYes te [k1, k2]) σ H (.list ((List.range ds.length).map fun i => f i (ds.getD i .none))) := fun H1 x1 Q q =>
  ha H1 x1 _ fun x H2 x2 hx => by
    cases hx with
    | @tup a xs _ h1 _ h2 =>
      have hlen := dps_len h2
      refine ⟨a, xs, rfl, ex_t hid_le h1, fun D hD => ?_⟩
      refine lc_it walk_enumT (fun i H3 => Ex H2 H3 ∧ H3 D = some (.lst (((List.range i).map fun i => f i (ds.getD i .none)).map vOf))) ⟨Ex.new hD, upd_same⟩ (fun i H3 _ h => ex_t h.1 (ex_t hid_le h1)) ?_ ?_
      · intro i x H3 H3' hi ⟨x3, e3⟩ ⟨T, y1, y2, ex, nT, eH, g1, g2⟩
        subst ex eH
        have e1 : y1 = .int (i : Nat) := (Option.some.inj g1).symm
        subst e1
        obtain ⟨d, gd, dd⟩ := dps_at h2 g2
        have xT : Ex H3 (upd H3 T (.tup [.int (i : Nat), y2])) := Ex.new nT
        refine ⟨T, [.int (i : Nat), y2], rfl, .inl (.inl upd_same), rfl, _, _, rfl, _, _, rfl, rfl, hw _ _, ?_⟩
        refine et_yes (H := upd H3 T (.tup [.int (i : Nat), y2])) _ (Ex.refl _) _ fun H4 x4 => ?_
        rw [if_pos rfl]
        have x3' : Ex H2 H4 := (x3.trans xT).trans x4
        refine he i d y2 _ gd ((x1.trans x2).trans x3') (Dq.up dd x3') _ (Ex.refl _) _ fun y H5 x5 hy => ?_
        have ey := dp_flat hy (hf i d gd)
        have hg : ds.getD i .none = d := by rw [List.getD_eq_getElem?_getD, gd, Option.getD_some]
        refine ⟨_, x5 _ _ (x4 _ _ (xT _ _ e3)), ?_, Ex.mut (x3'.trans x5) hD, ?_⟩
        · rw [List.length_map, List.length_map, List.length_range]
          have : xs.length < sizeLine := by rw [hlen]; exact hl
          omega
        · rw [upd_same, List.range_succ, List.map_append, List.map_append, ey]
          show some (HO.lst (_ ++ [vOf (f i d)])) = some (HO.lst (_ ++ [vOf (f i (ds.getD i .none))]))
          rw [hg]
      · intro H3 ⟨x3, e3⟩
        rw [hlen] at e3
        refine q _ H3 (x2.trans x3) (.lst (.inl (.inl ?_)) (flats_dp fun d hd => ?_))
        · rw [hid_ne ((kn.up (x1.trans x2)).new hD)]
          exact e3
        · obtain ⟨i, hi, rfl⟩ := List.mem_map.mp hd
          have hi' := List.mem_range.mp hi
          have g1 : ds[i]? = some ds[i] := List.getElem?_eq_getElem hi'
          have := hf i _ g1
          simp only [List.getD_eq_getElem?_getD, g1, Option.getD_some]
          exact this
theorem atI0 {α : Type} (x : α) (r : List α) : atI (x :: r) 0 = some x := atI_nat (j := 0) rfl
theorem atI1 {α : Type} (x y : α) (r : List α) : atI (x :: y :: r) 1 = some y := atI_nat (j := 1) rfl
theorem atI2 {α : Type} (x y z : α) (r : List α) : atI (x :: y :: z :: r) 2 = some z := atI_nat (j := 2) rfl
theorem sh_str {x : Str} (h : PyData.strOk x = true) : SeqAt.shaped (.str x) = true := by
  show ((PyData.str x).canLay0 && decide ((PyData.str x).depth ≤ 64)) = true
  simp only [PyData.canLay0, PyData.depth, h]
  rfl
theorem sh_strs {xs : List Str} (h : xs.all PyData.strOk = true) : SeqAt.shaped (.tuple (xs.map .str)) = true ∧ SeqAt.shaped (.list (xs.map .str)) = true := by
  have h1 : PyData.canLayAll0 (xs.map .str) = true := lay_all fun d hd => by
    obtain ⟨x, hx, rfl⟩ := List.mem_map.mp hd
    simp only [PyData.canLay0]
    exact List.all_eq_true.mp h x hx
  have h2 : PyData.depthAll (xs.map .str) ≤ 0 := depth_all fun d hd => by
    obtain ⟨x, hx, rfl⟩ := List.mem_map.mp hd
    simp only [PyData.depth]
    exact Nat.le_refl 0
  constructor
  · show ((PyData.tuple _).canLay0 && decide ((PyData.tuple _).depth ≤ 64)) = true
    simp only [PyData.canLay0, PyData.depth, h1, Bool.true_and]
    exact decide_eq_true (by omega)
  · show ((PyData.list _).canLay0 && decide ((PyData.list _).depth ≤ 64)) = true
    simp only [PyData.canLay0, PyData.depth, h1, Bool.true_and]
    exact decide_eq_true (by omega)
end
section
variable {P : Program} {w : World} {K : PySem.W.Frag} {mg : Str → Option Value} {base : Heap} {f g g2 g3 g4 g5 : Addr} {fd gd gd2 gd3 gd4 gd5 : FuncData}
theorem ok_is_headed (D : Def K mg "is_headed" s_is_headed ["thing"] f fd) (D1 : Def K mg "is_name" s_is_name ["thing"] g gd) (G1 : FnOk P w K mg base CX0 1 g gd ["thing"] (spP K (fun ds => ds.length = 1 ∧ ∀ d, ds = [d] → okD 30 d = true) (F1 nameD)))
    (D2 : Def K mg "are_names" s_are_names ["thing"] g2 gd2) (G2 : FnOk P w K mg base CX0 2 g2 gd2 ["thing"] (spP K (fun ds => ds.length = 1 ∧ ∀ d, ds = [d] → okD 30 d = true) (F1 namesD))) (B : Blt mg) :
    FnOk P w K mg base CX0 3 f fd ["thing"] (spP K (fun ds => ds.length = 1 ∧ ∀ d, ds = [d] → okD 30 d = true) (F1 headedD)) := by
  refine D.F.ok sc_is_headed (fun vs H Q E h => spP_len (fun _ h => h.1) h) (fun cdv A outer s H vs Q E hr h => ?_)
  obtain ⟨b, ds, kn, hd, ⟨hp, hok⟩, q⟩ := h
  obtain ⟨v, d, rfl, rfl, h1⟩ := one_of hd hp
  have hok := hok d rfl
  refine ⟨_, pss_one (ps_ret (pe_and (pe_callB call_isi rfl B.isi bb_isinstance (pa_cons (pv 0) (pa_cons (pe_tyN rfl B.tuple bt_tuple) pa_nil)))
    (pe_and (pe_cmpR (op_eqD (hu64 hr)) (pe_callB call_lenD1 rfl B.len bb_len (pa_cons (pv 0) pa_nil)) pe_int (nomark _))
    (pe_and (pe_cd D1 G1 (hr.mono (by decide)) (pa_cons (pe_ix ix_tup (pv 0) pe_int (fun _ _ => rfl)) pa_nil))
    (pe_one (pe_cd D2 G2 hr (pa_cons (pe_ix ix_tup (pv 0) pe_int (fun _ _ => rfl)) pa_nil))))))), ?_⟩
  have t1 := ed_isi (K := K) (b := b) (σ := start ["thing"] [v]) (H := H) (T := "tuple") (.inr (.inr (.inr (.inl rfl)))) (ed_var (i := 0) rfl h1)
  cases hs : isD "tuple" d with
  | false =>
    rw [hs] at t1
    refine SR.fin (sr_ret ((ed_andB (k := false) t1 fun h => nomatch h).to ?_)) q
    have : headedD d = false := by
      cases d <;> first | rfl | (simp [isD, dTy, tyIs] at hs)
    show PyData.bool false = .bool (headedD d)
    rw [this]
  | true =>
    obtain ⟨ds, rfl⟩ := isD_tuple hs
    rw [hs] at t1
    have t2 := ed_eq (K := K) (b := b) (σ := start ["thing"] [v]) (ed_len (ed_var (i := 0) rfl h1) (.inr (.inr hs)) fun y e => by cases e) (ed_int (i := 3)) (sh_int _) (sh_int _)
    by_cases h3 : ds.length = 3
    · obtain ⟨x, y, z, rfl⟩ : ∃ x y z, ds = [x, y, z] := by
        match ds, h3 with
        | [x, y, z], _ => exact ⟨x, y, z, rfl⟩
      have okx : ∀ e ∈ [x, y, z], okD 30 e = true := fun e he => ok_up (ok_items (n := 29) hok e he) (by omega)
      refine SR.fin (sr_ret ((ed_andB t1 fun _ => ed_andB t2 fun _ => ed_andB (ed_call kn (ea_cons (ed_ixT (ed_var rfl h1) ed_int (atI0 x [y, z])) ea_nil) ⟨rfl, fun e' h' => by cases h'; exact okx x (by simp)⟩)
        fun _ => ed_call kn (ea_cons (ed_ixT (ed_var rfl h1) ed_int (atI1 x y [z])) ea_nil) ⟨rfl, fun e' h' => by cases h'; exact okx y (by simp)⟩).to ?_)) q
      rw [eqv_int]
      rfl
    · have e3 : PyData.eqv (.int (lenD (.tuple ds) : Nat)) (.int 3) = false := by
        rw [eqv_int]
        exact beq_eq_false_iff_ne.mpr (by show ¬ ((ds.length : Nat) : Int) = 3; omega)
      rw [e3] at t2
      refine SR.fin (sr_ret ((ed_andB (k := false) t1 fun _ => ed_andB (k := false) t2 fun h => nomatch h).to ?_)) q
      have : headedD (.tuple ds) = false := by
        match ds, h3 with
        | [], _ => rfl
        | [_], _ => rfl
        | [_, _], _ => rfl
        | [_, _, _], h => exact absurd rfl h
        | _ :: _ :: _ :: _ :: _, _ => rfl
      show PyData.bool false = .bool (headedD _)
      rw [this]
theorem headed_fst {d : PyData} (h : headedD d = true) : ∃ a c e, d = .tuple [a, c, e] ∧ nameD a = true ∧ namesD c = true := by
  unfold headedD at h
  split at h
  · rename_i a c e
    rw [Bool.and_eq_true] at h
    exact ⟨a, c, e, rfl, h.1, h.2⟩
  · cases h
theorem ok_are_headed (D : Def K mg "are_headed" s_are_headed ["thing", "most"] f fd) (D1 : Def K mg "is_headed" s_is_headed ["thing"] g gd) (G1 : FnOk P w K mg base CX0 3 g gd ["thing"] (spP K (fun ds => ds.length = 1 ∧ ∀ d, ds = [d] → okD 30 d = true) (F1 headedD)))
    (D2 : Def K mg "are_unlike" s_are_unlike ["names"] g2 gd2) (B : Blt mg) :
    FnOk P w K mg base CX0 4 f fd ["thing", "most"] (spP K (fun ds => ds.length = 2 ∧ ∀ d n, ds = [d, n] → okD 30 d = true ∧ ∃ i, n = .int i) (F2 fun d n => headedAll d (intOf n))) := by
  refine D.F.ok sc_are_headed (fun vs H Q E h => spP_len (fun _ h => h.1) h) (fun cdv A outer s H vs Q E hr h => ?_)
  obtain ⟨b, ds, kn, hd, ⟨hp, hp2⟩, q⟩ := h
  obtain ⟨v, v2, d, n, rfl, rfl, h1, h2⟩ := two_of hd hp
  obtain ⟨hok, m, rfl⟩ := hp2 d n rfl
  refine ⟨_, pss_cons (ps_if (PW.pt (pw_or (pt_not (pt_val (pe_callB call_isi rfl B.isi bb_isinstance (pa_cons (pv 0) (pa_cons (pe_tyN rfl B.tuple bt_tuple) pa_nil)))))
      (pw_or1 (pt_not (pt_chain op_le op_le pe_int (pe_callB call_lenD1 rfl B.len bb_len (pa_cons (pv 0) pa_nil)) (pv 1)))))) (pss_one (ps_ret pe_bl)) pss_nil)
    (pss_one (ps_ret (pe_and (pe_callB (cr_all rfl) rfl B.all bb_all (pa_cons
      (pe_lc (own := [("one", 2)]) (g := gName 2) (tt := tYes) rfl sc_are_headed.nd (pi_tup (pv 0)) (blkOk_by (N := ["thing", "most", "one"]) (sc := defScope s_are_headed) (by decide +kernel)) (fun _ _ _ _ _ => pg_name (i := 2) sc_are_headed.nd rfl (Or.inl rfl)) (fun _ _ _ _ _ => pts_nil)
        (fun _ _ _ _ _ => pe_cd D1 G1 hr (pa_cons (pv 2) pa_nil))) pa_nil))
      (pe_one (pe_cd D2 (ok_are_unlike D2 B) (hr.mono (by decide)) (pa_cons
        (pe_lc (own := [("one", 2)]) (g := gName 2) (tt := tYes) rfl sc_are_headed.nd (pi_tup (pv 0)) (blkOk_by (N := ["thing", "most", "one"]) (sc := defScope s_are_headed) (by decide +kernel)) (fun _ _ _ _ _ => pg_name (i := 2) sc_are_headed.nd rfl (Or.inl rfl)) (fun _ _ _ _ _ => pts_nil)
          (fun _ _ _ _ _ => pe_ix (r := rIxT K) ix_tup (pv 2) pe_int (fun _ _ => rfl))) pa_nil)))))), ?_⟩
  have t1 := et_n (et_b (ed_isi (K := K) (b := b) (σ := start ["thing", "most", "one"] [v, v2]) (H := H) (T := "tuple") (.inr (.inr (.inr (.inl rfl)))) (ed_var (i := 0) rfl h1)))
  cases hs : isD "tuple" d with
  | false =>
    rw [hs] at t1
    refine SR.fin ((sr_if (e := .none) (et_or (b := false) t1 fun h => nomatch h) (fun _ => sr_ret ed_bl) fun h => nomatch h).to ?_) q
    have : headedAll d (intOf (.int m)) = false := by
      cases d <;> first | rfl | (simp [isD, dTy, tyIs] at hs)
    show PyData.bool false = .bool (headedAll d (intOf (.int m)))
    rw [this]
  | true =>
    obtain ⟨ds, rfl⟩ := isD_tuple hs
    rw [hs] at t1
    have hlen := ok_len hok
    have okx : ∀ e ∈ ds, okD 30 e = true := fun e he => ok_up (ok_items (n := 29) hok e he) (by omega)
    have tl := et_or t1 fun _ => et_n (et_t (ed_chain (K := K) (b := b) (g := fun i j => decide (i ≤ j)) (g' := fun i j => decide (i ≤ j)) (ed_int (i := 1)) (ed_len (ed_var (i := 0) rfl h1) (.inr (.inr hs)) fun y e => by cases e) (ed_var (i := 1) rfl h2)))
    refine SR.fin ((sr_if tl (fun _ => sr_ret ed_bl) fun hc => sr_ret (ed_andB (k := unlikeS (strsOf (ds.map fst))) (ed_allT (g := headedD) kn (ed_var rfl h1) hlen fun e v' H3 he x3 hv => ed_call (kn.up x3) (ea_cons (ed_var rfl hv) ea_nil) (by exact ⟨rfl, fun e' h' => by cases h'; exact okx e he⟩)) fun ha => ?_)).to ?_) q
    · have hh : ∀ e ∈ ds, ∃ a c z, e = .tuple [a, c, z] ∧ nameD a = true ∧ namesD c = true := fun e he => headed_fst (List.all_eq_true.mp ha e he)
      have hst : (ds.map fst).all (isD "str") = true := List.all_eq_true.mpr fun x hx => by
        obtain ⟨e, he, rfl⟩ := List.mem_map.mp hx
        obtain ⟨a, c, z, rfl, h4, _⟩ := hh e he
        exact nameD_str h4
      have e1 := map_strsOf hst
      have lc := ed_lcT1 (K := K) (b := b) (te := tOp (rIxT K) (tVar 2) (tC (.int 0))) (k := 2) (f := fst) kn (ed_var (σ := start ["thing", "most", "one"] [v, v2]) (i := 0) rfl h1) (Nat.lt_of_le_of_lt hlen (by decide)) (fun e v' H3 he x3 hv => by
        obtain ⟨a, c, z, rfl, _, _⟩ := hh e he
        exact ed_ixT (ed_var rfl hv) ed_int (atI0 a [c, z])) (fun e he => by
        obtain ⟨a, c, z, rfl, h4, _⟩ := hh e he
        obtain ⟨x, rfl⟩ := isD_str (nameD_str h4)
        rfl)
      refine (ed_call (K := K) (f := F1 unlikeD) kn (ea_cons lc ea_nil) ?_).to ?_
      · refine ⟨rfl, fun e' h' => ?_⟩
        cases h'
        refine ⟨strsOf (ds.map fst), Nat.le_trans strsOf_len (by rw [List.length_map]; exact hlen), .inl (by rw [e1])⟩
      · rfl
    · show _ = PyData.bool ((decide (1 ≤ ds.length) && decide ((ds.length : Int) ≤ m)) && (ds.all headedD && unlikeS (strsOf (ds.map fst))))
      have e1 : decide ((1 : Int) ≤ (lenD (.tuple ds) : Nat)) = decide (1 ≤ ds.length) := by
        show decide ((1 : Int) ≤ (ds.length : Nat)) = _
        by_cases h : 1 ≤ ds.length
        · rw [decide_eq_true h, decide_eq_true (by omega)]
        · rw [decide_eq_false h, decide_eq_false (by omega)]
      rw [e1]
      show (if (!(decide (1 ≤ ds.length) && decide ((ds.length : Int) ≤ m))) = true then _ else _) = _
      cases (decide (1 ≤ ds.length) && decide ((ds.length : Int) ≤ m)) <;> rfl
end
end Wr

set_option Elab.async false
set_option linter.all false
set_option maxRecDepth 100000
set_option maxHeartbeats 4000000
namespace Wr
open PySem PySem.Spec PyProof.Rows L2 Evl
/-- the text's written tuples -/
structure Words (K : PySem.W.Frag) (mg : Str → Option Value) (aN aR aL : Addr) : Prop where
  mN : mg "NAME_WORDS" = some (.ref aN)
  mR : mg "ROW_WORDS" = some (.ref aR)
  mL : mg "LONE_WORDS" = some (.ref aL)
  kN : ∀ H, SqT K H aN (nameW.map V.str) ∧ TN K H aN
  kR : ∀ H, SqT K H aR (rowW.map V.str) ∧ TN K H aR
  kL : ∀ H, SqT K H aL (loneW.map V.str) ∧ TN K H aL
def rowF (ds : List PyData) : PyData := match ds with
  | [d, i, m, .list cs] => .bool (rowD d (intOf i) (intOf m) (strsOf cs))
  | _ => .none
def RowPre (ds : List PyData) : Prop := ds.length = 4 ∧ ∀ d i m c, ds = [d, i, m, c] → okD 30 d = true ∧ (∃ k, i = .int k) ∧ (∃ k, m = .int k) ∧ ∃ xs : List Str, xs.all PyData.strOk = true ∧ c = .list (xs.map .str)
theorem rowD_two (a c : PyData) (i m : Int) (xs : List Str) : rowD (.tuple [a, c]) i m xs = (if PyData.eqv a (.str "put") = true then worthD c
    else if inD a (nameW.map .str) = true then nameD c
    else if PyData.eqv a (.str "call") = true then inD c (xs.map .str)
    else inD a (rowW.map .str) && (indexD c m && !(PyData.eqv a (.str "try") && PyData.eqv c (.int (i + 1))))) := rfl
theorem strOk_words : (loneW ++ nameW ++ rowW).all PyData.strOk = true := by decide +kernel
theorem sh_lone : SeqAt.shaped (.tuple (loneW.map .str)) = true := (sh_strs (by decide +kernel)).1
theorem sh_nameW : SeqAt.shaped (.tuple (nameW.map .str)) = true := (sh_strs (by decide +kernel)).1
theorem sh_rowW : SeqAt.shaped (.tuple (rowW.map .str)) = true := (sh_strs (by decide +kernel)).1
theorem sh_put : SeqAt.shaped (.str "put") = true := sh_str (by decide +kernel)
theorem sh_call : SeqAt.shaped (.str "call") = true := sh_str (by decide +kernel)
theorem sh_try : SeqAt.shaped (.str "try") = true := sh_str (by decide +kernel)
section
variable {P : Program} {w : World} {K : PySem.W.Frag} {mg : Str → Option Value} {base : Heap} {f g g2 g3 g4 g5 aN aR aL : Addr} {fd gd gd2 gd3 gd4 gd5 : FuncData}
theorem ed_words {b : List Addr} {σ : L2.St} {H : Hp} {a : Addr} {xs : List Str} (h : ∀ H, SqT K H a (xs.map V.str) ∧ TN K H a) : ED K b (tC (.ref a)) σ H (.tuple (xs.map .str)) := ed_c (.tup (h _).1 (h _).2 (strs_dps xs))
theorem ok_is_row (D : Def K mg "is_row" s_is_row ["thing", "at", "many", "called"] f fd) (D1 : Def K mg "is_worth" s_is_worth ["thing"] g gd) (G1 : FnOk P w K mg base CX0 2 g gd ["thing"] (spP K (fun ds => ds.length = 1) (F1 worthD)))
    (D2 : Def K mg "is_name" s_is_name ["thing"] g2 gd2) (G2 : FnOk P w K mg base CX0 1 g2 gd2 ["thing"] (spP K (fun ds => ds.length = 1 ∧ ∀ d, ds = [d] → okD 30 d = true) (F1 nameD)))
    (D3 : Def K mg "is_index" s_is_index ["thing", "many"] g3 gd3) (G3 : FnOk P w K mg base CX0 2 g3 gd3 ["thing", "many"] (spP K (fun ds => ds.length = 2 ∧ ∀ d n, ds = [d, n] → ∃ i, n = .int i) (F2 fun d n => indexD d (intOf n)))) (B : Blt mg) (W : Words K mg aN aR aL) :
    FnOk P w K mg base CX0 3 f fd ["thing", "at", "many", "called"] (spP K RowPre rowF) := by
  refine D.F.ok sc_is_row (fun vs H Q E h => spP_len (fun _ h => h.1) h) (fun cdv A outer s H vs Q E hr h => ?_)
  obtain ⟨b, ds, kn, hd, ⟨hp, hp2⟩, q⟩ := h
  obtain ⟨v, v2, v3, v4, d, d2, d3, d4, rfl, rfl, h1, h2, h3, h4⟩ := four_of hd hp
  obtain ⟨hok, ⟨i, rfl⟩, ⟨m, rfl⟩, xs, hxs, rfl⟩ := hp2 d d2 d3 d4 rfl
  refine ⟨_, pss_cons (ps_if (pt_not (pt_val (pe_callB call_isi rfl B.isi bb_isinstance (pa_cons (pv 0) (pa_cons (pe_tyN rfl B.tuple bt_tuple) pa_nil))))) (pss_one (ps_ret pe_bl)) pss_nil)
    (pss_cons (ps_if (pt_cmpR (op_eqD (hu64 hr)) (pe_callB call_lenD1 rfl B.len bb_len (pa_cons (pv 0) pa_nil)) pe_int (nomark _)) (pss_one (ps_ret (pe_cmpR (op_inT (hu65 hr)) (pe_ix ix_tup (pv 0) pe_int (fun _ _ => rfl)) (pe_gR W.mL) rfl))) pss_nil)
    (pss_cons (ps_if (pt_cmpR (op_neD (hu64 hr)) (pe_callB call_lenD1 rfl B.len bb_len (pa_cons (pv 0) pa_nil)) pe_int (nomark _)) (pss_one (ps_ret pe_bl)) pss_nil)
    (pss_cons (ps_asg (pv 0) (pg_tup rfl (pgs_cons (pg_name (i := 4) sc_is_row.nd rfl (Or.inl rfl)) (pgs_cons (pg_name (i := 5) sc_is_row.nd rfl (Or.inl rfl)) pgs_nil))))
    (pss_cons (ps_if (pt_cmpR (op_eqD (hu64 hr)) (pv 4) pe_str (nomark _)) (pss_one (ps_ret (pe_cd D1 G1 hr (pa_cons (pv 5) pa_nil)))) pss_nil)
    (pss_cons (ps_if (pt_cmpR (op_inT (hu65 hr)) (pv 4) (pe_gR W.mN) rfl) (pss_one (ps_ret (pe_cd D2 G2 (hr.mono (by decide)) (pa_cons (pv 5) pa_nil)))) pss_nil)
    (pss_cons (ps_if (pt_cmpR (op_eqD (hu64 hr)) (pv 4) pe_str (nomark _)) (pss_one (ps_ret (pe_cmpR (op_inD (hu65 hr)) (pv 5) (pv 3) rfl))) pss_nil)
    (pss_one (ps_ret (pe_and (pe_cmpR (op_inT (hu65 hr)) (pv 4) (pe_gR W.mR) rfl) (pe_and (pe_cd D3 G3 hr (pa_cons (pv 5) (pa_cons (pv 2) pa_nil)))
      (pe_one (pe_not (pe_and (pe_cmpR (op_eqD (hu64 hr)) (pv 4) pe_str (nomark _)) (pe_one (pe_cmpR (op_eqD (hu64 hr)) (pv 5) (pe_op op_add (pv 1) pe_int) (nomark _)))))))))))))))), ?_⟩
  have t1 := et_n (et_b (ed_isi (K := K) (b := b) (σ := start ["thing", "at", "many", "called", "word", "told"] [v, v2, v3, v4]) (H := H) (T := "tuple") (.inr (.inr (.inr (.inl rfl)))) (ed_var (i := 0) rfl h1)))
  cases hs : isD "tuple" d with
  | false =>
    rw [hs] at t1
    refine SR.fin ((sr_if (e := .none) t1 (fun _ => sr_ret ed_bl) fun h => nomatch h).to ?_) q
    have : rowD d i m (strsOf (xs.map .str)) = false := by
      cases d <;> first | rfl | (simp [isD, dTy, tyIs] at hs)
    show PyData.bool false = .bool (rowD d i m (strsOf (xs.map .str)))
    rw [this]
  | true =>
    obtain ⟨ds, rfl⟩ := isD_tuple hs
    rw [hs] at t1
    have okx : ∀ e ∈ ds, okD 30 e = true := fun e he => ok_up (ok_items (n := 29) hok e he) (by omega)
    have tl := ed_len (K := K) (b := b) (σ := start ["thing", "at", "many", "called", "word", "told"] [v, v2, v3, v4]) (ed_var (i := 0) rfl h1) (.inr (.inr hs)) fun y e => by cases e
    have t2 := et_t (ed_eq tl (ed_int (i := 1)) (sh_int _) (sh_int _))
    have t3 := et_t (ed_ne tl (ed_int (i := 2)) (sh_int _) (sh_int _))
    rw [eqv_int] at t2 t3
    by_cases hl1 : ds.length = 1
    · obtain ⟨a, rfl⟩ : ∃ a, ds = [a] := by
        match ds, hl1 with
        | [a], _ => exact ⟨a, rfl⟩
      refine SR.fin (((sr_if (d := .none) t1 (fun h => nomatch h) fun _ => sr_if (e := .none) t2 (fun _ => sr_ret (ed_inT (ed_ixT (ed_var rfl h1) ed_int (atI0 a [])) (ed_words W.kL) (ok_shaped (okx a (by simp))) sh_lone)) fun h => nomatch h)).to ?_) q
      rfl
    · have n1 : (((lenD (.tuple ds) : Nat) : Int) == 1) = false := beq_eq_false_iff_ne.mpr (by show ¬ ((ds.length : Nat) : Int) = 1; omega)
      rw [n1] at t2
      by_cases hl2 : ds.length = 2
      · obtain ⟨a, c, rfl⟩ : ∃ a c, ds = [a, c] := by
          match ds, hl2 with
          | [a, c], _ => exact ⟨a, c, rfl⟩
        have sa := ok_shaped (okx a (by simp))
        have sc := ok_shaped (okx c (by simp))
        refine SR.fin (((sr_if (d := .none) t1 (fun h => nomatch h) fun _ => sr_if (d := .none) t2 (fun h => nomatch h) fun _ => sr_if (d := .none) t3 (fun h => nomatch h) fun _ => sr_unpack2 (ed_var rfl h1) fun v5 v6 H' x' p1 p2 =>
          sr_if (et_t (ed_eq (ed_var rfl p1) ed_str sa sh_put)) (fun _ => sr_ret (ed_call (kn.up x') (ea_cons (ed_var rfl p2) ea_nil) (by rfl)))
          fun _ => sr_if (et_t (ed_inT (ed_var rfl p1) (ed_words W.kN) sa sh_nameW)) (fun _ => sr_ret (ed_call (kn.up x') (ea_cons (ed_var rfl p2) ea_nil) (by exact ⟨rfl, fun e' h' => by cases h'; exact okx c (by simp)⟩)))
          fun _ => sr_if (et_t (ed_eq (ed_var rfl p1) ed_str sa sh_call)) (fun _ => sr_ret (ed_inL (ed_var rfl p2) (ed_var rfl (Dq.up h4 x')) sc (sh_strs hxs).2))
          fun _ => sr_ret (ed_andB (ed_inT (ed_var rfl p1) (ed_words W.kR) sa sh_rowW) fun _ => ed_andB (ed_call (kn.up x') (ea_cons (ed_var rfl p2) (ea_cons (ed_var rfl (Dq.up h3 x')) ea_nil)) (by exact ⟨rfl, fun d n h' => by cases h'; exact ⟨m, rfl⟩⟩))
            fun _ => ed_not (ed_andB (ed_eq (ed_var rfl p1) ed_str sa sh_try) fun _ => ed_eq (ed_var rfl p2) (ed_add (ed_var rfl (Dq.up h2 x')) ed_int) sc (sh_int _))))).to ?_) q
        show _ = PyData.bool (rowD (.tuple [a, c]) i m (strsOf (xs.map .str)))
        rw [strsOf_map, rowD_two]
        cases PyData.eqv a (.str "put")
        · cases inD a (nameW.map .str)
          · cases PyData.eqv a (.str "call") <;> rfl
          · rfl
        · rfl
      · have n2 : (((lenD (.tuple ds) : Nat) : Int) == 2) = false := beq_eq_false_iff_ne.mpr (by show ¬ ((ds.length : Nat) : Int) = 2; omega)
        rw [n2] at t3
        refine SR.fin (((sr_if (d := .none) t1 (fun h => nomatch h) fun _ => sr_if (d := .none) t2 (fun h => nomatch h) fun _ => sr_if (e := .none) t3 (fun _ => sr_ret ed_bl) fun h => nomatch h)).to ?_) q
        have : rowD (.tuple ds) i m (strsOf (xs.map .str)) = false := by
          match ds, hl1, hl2 with
          | [], _, _ => rfl
          | [_], h, _ => exact absurd rfl h
          | [_, _], _, h => exact absurd rfl h
          | _ :: _ :: _ :: _, _, _ => rfl
        show PyData.bool false = .bool (rowD _ i m (strsOf (xs.map .str)))
        rw [this]
def RowsPre (ds : List PyData) : Prop := ds.length = 2 ∧ ∀ d c, ds = [d, c] → okD 30 d = true ∧ ∃ xs : List Str, xs.all PyData.strOk = true ∧ c = .list (xs.map .str)
def rowsF (ds : List PyData) : PyData := match ds with
  | [d, .list cs] => .bool (rowsD d (strsOf cs))
  | _ => .none
theorem ok_are_rows (D : Def K mg "are_rows" s_are_rows ["thing", "called"] f fd) (D1 : Def K mg "is_row" s_is_row ["thing", "at", "many", "called"] g gd) (G1 : FnOk P w K mg base CX0 3 g gd ["thing", "at", "many", "called"] (spP K RowPre rowF)) (B : Blt mg) {t : Tok} (mM : mg "MOST_PART_ROWS" = some (.int 60 t)) :
    FnOk P w K mg base CX0 4 f fd ["thing", "called"] (spP K RowsPre rowsF) := by
  refine D.F.ok sc_are_rows (fun vs H Q E h => spP_len (fun _ h => h.1) h) (fun cdv A outer s H vs Q E hr h => ?_)
  obtain ⟨b, ds, kn, hd, ⟨hp, hp2⟩, q⟩ := h
  obtain ⟨v, v2, d, d2, rfl, rfl, h1, h2⟩ := two_of hd hp
  obtain ⟨hok, xs, hxs, rfl⟩ := hp2 d d2 rfl
  refine ⟨_, pss_cons (ps_if (PW.pt (pw_or (pt_not (pt_val (pe_callB call_isi rfl B.isi bb_isinstance (pa_cons (pv 0) (pa_cons (pe_tyN rfl B.tuple bt_tuple) pa_nil)))))
      (pw_or1 (pt_not (pt_chain op_le op_le pe_int (pe_callB call_lenD1 rfl B.len bb_len (pa_cons (pv 0) pa_nil)) (pe_gI mM)))))) (pss_one (ps_ret pe_bl)) pss_nil)
    (pss_one (ps_ret (pe_callB (cr_all rfl) rfl B.all bb_all (pa_cons
      (pe_lc (own := [("at", 2), ("row", 3)]) (g := gTup K 2 (gCons (gName 2) (gCons (gName 3) gNil))) (tt := tYes) rfl sc_are_rows.nd (pi_enumT rfl B.enum (pa_cons (pv 0) pa_nil)) (blkOk_by (N := ["thing", "called", "at", "row"]) (sc := defScope s_are_rows) (by decide +kernel))
        (fun _ _ _ _ _ => pg_tup rfl (pgs_cons (pg_name (i := 2) sc_are_rows.nd rfl (Or.inl rfl)) (pgs_cons (pg_name (i := 3) sc_are_rows.nd rfl (Or.inl rfl)) pgs_nil))) (fun _ _ _ _ _ => pts_nil)
        (fun _ _ _ _ _ => pe_cd D1 G1 hr (pa_cons (pv 3) (pa_cons (pv 2) (pa_cons (pe_callB (r := rLen K) call_lenD1 rfl B.len bb_len (pa_cons (pv 0) pa_nil)) (pa_cons (pv 1) pa_nil)))))) pa_nil)))), ?_⟩
  have t1 := et_n (et_b (ed_isi (K := K) (b := b) (σ := start ["thing", "called", "at", "row"] [v, v2]) (H := H) (T := "tuple") (.inr (.inr (.inr (.inl rfl)))) (ed_var (i := 0) rfl h1)))
  cases hs : isD "tuple" d with
  | false =>
    rw [hs] at t1
    refine SR.fin ((sr_if (e := .none) (et_or (b := false) t1 fun h => nomatch h) (fun _ => sr_ret ed_bl) fun h => nomatch h).to ?_) q
    have : rowsD d (strsOf (xs.map .str)) = false := by
      cases d <;> first | rfl | (simp [isD, dTy, tyIs] at hs)
    show PyData.bool false = .bool (rowsD d (strsOf (xs.map .str)))
    rw [this]
  | true =>
    obtain ⟨ds, rfl⟩ := isD_tuple hs
    rw [hs] at t1
    have hlen := ok_len hok
    have okx : ∀ e ∈ ds, okD 30 e = true := fun e he => ok_up (ok_items (n := 29) hok e he) (by omega)
    have tl := et_or t1 fun _ => et_n (et_t (ed_chain (K := K) (b := b) (g := fun i j => decide (i ≤ j)) (g' := fun i j => decide (i ≤ j)) (ed_int (i := 1)) (ed_len (ed_var (i := 0) rfl h1) (.inr (.inr hs)) fun y e => by cases e) (ed_c (v := .int 60) (.int 60))))
    have lc := ed_lcE (K := K) (b := b) (te := tCall (spP K RowPre rowF) [] E0 (tCons (tVar 3) (tCons (tVar 2) (tCons (tCB (rLen K) (tCons (tVar 0) tNil)) (tCons (tVar 1) tNil))))) (k1 := 2) (k2 := 3) (f := fun i d => .bool (rowD d i ds.length xs)) kn (ed_var (σ := start ["thing", "called", "at", "row"] [v, v2]) (i := 0) rfl h1) (Nat.lt_of_le_of_lt hlen (by decide)) (fun _ _ => rfl)
      (fun i e v' H3 he x3 hv => (ed_call (kn.up x3) (ea_cons (ed_var rfl hv) (ea_cons (ed_var (d := .int (i : Nat)) rfl (.int _)) (ea_cons (ed_len (ed_var rfl (Dq.up h1 x3)) (.inr (.inr hs)) fun y e => by cases e) (ea_cons (ed_var rfl (Dq.up h2 x3)) ea_nil))))
        (by exact ⟨rfl, fun d i m c h' => by cases h'; exact ⟨okx e (List.mem_of_getElem? he), ⟨_, rfl⟩, ⟨_, rfl⟩, xs, hxs, rfl⟩⟩)).to (by
          show PyData.bool (rowD e i ds.length (strsOf (xs.map .str))) = _
          rw [strsOf_map])) (fun _ _ _ => rfl)
    have e0 : ((List.range ds.length).map fun i => PyData.bool (rowD (ds.getD i .none) i ds.length xs)) = ((List.range ds.length).map fun i => rowD (ds.getD i .none) i ds.length xs).map PyData.bool := by
      rw [List.map_map]
      rfl
    refine SR.fin ((sr_if tl (fun _ => sr_ret ed_bl) fun hc => sr_ret (ed_all (lc.to (by rw [e0])))).to ?_) q
    show _ = PyData.bool (rowsD (.tuple ds) (strsOf (xs.map .str)))
    rw [strsOf_map, all_map]
    unfold rowsD
    have e1 : decide ((1 : Int) ≤ (lenD (.tuple ds) : Nat)) = decide (1 ≤ ds.length) := by
      show decide ((1 : Int) ≤ (ds.length : Nat)) = _
      by_cases h : 1 ≤ ds.length
      · rw [decide_eq_true h, decide_eq_true (by omega)]
      · rw [decide_eq_false h, decide_eq_false (by omega)]
    have e2 : decide (((lenD (.tuple ds) : Nat) : Int) ≤ 60) = decide (ds.length ≤ 60) := by
      show decide (((ds.length : Nat) : Int) ≤ 60) = _
      by_cases h : ds.length ≤ 60
      · rw [decide_eq_true h, decide_eq_true (by omega)]
      · rw [decide_eq_false h, decide_eq_false (by omega)]
    rw [e1, e2]
    show (if (!(decide (1 ≤ ds.length) && decide (ds.length ≤ 60))) = true then _ else _) = PyData.bool ((decide (1 ≤ ds.length) && decide (ds.length ≤ 60)) && _)
    cases (decide (1 ≤ ds.length) && decide (ds.length ≤ 60)) <;> rfl
theorem name_strOk {x : Str} (h : nameS x = true) : PyData.strOk x = true := by
  unfold nameS at h
  rw [Bool.and_eq_true, Bool.and_eq_true] at h
  have h2 : x.cps.all (· < 128) = true := h.2.1
  show x.cps.all (· < 0x110000) = true
  rw [Array.all_eq_true] at h2 ⊢
  intro i hi
  have := of_decide_eq_true (h2 i hi)
  exact decide_eq_true (by omega)
def ProgPre (ds : List PyData) : Prop := ds.length = 1 ∧ ∀ d, ds = [d] → okD 30 d = true
theorem ok_is_program (D : Def K mg "is_program" s_is_program ["thing"] f fd) (D1 : Def K mg "are_headed" s_are_headed ["thing", "most"] g gd) (G1 : FnOk P w K mg base CX0 4 g gd ["thing", "most"] (spP K (fun ds => ds.length = 2 ∧ ∀ d n, ds = [d, n] → okD 30 d = true ∧ ∃ i, n = .int i) (F2 fun d n => headedAll d (intOf n))))
    (D2 : Def K mg "are_rows" s_are_rows ["thing", "called"] g2 gd2) (G2 : FnOk P w K mg base CX0 4 g2 gd2 ["thing", "called"] (spP K RowsPre rowsF)) (B : Blt mg) {t : Tok} (mP : mg "MOST_PARTS" = some (.int 8 t)) :
    FnOk P w K mg base CX0 5 f fd ["thing"] (spP K ProgPre (F1 progD)) := by
  refine D.F.ok sc_is_program (fun vs H Q E h => spP_len (fun _ h => h.1) h) (fun cdv A outer s H vs Q E hr h => ?_)
  obtain ⟨b, ds, kn, hd, ⟨hp, hok⟩, q⟩ := h
  obtain ⟨v, d, rfl, rfl, h1⟩ := one_of hd hp
  have hok := hok d rfl
  refine ⟨_, pss_cons (ps_if (pt_not (pt_val (pe_cd D1 G1 hr (pa_cons (pv 0) (pa_cons (pe_gI mP) pa_nil))))) (pss_one (ps_ret pe_bl)) pss_nil)
    (pss_cons (ps_set (i := 1) sc_is_program.nd rfl (Or.inr rfl)
      (pe_lc (own := [("part", 2)]) (g := gName 2) (tt := tYes) rfl sc_is_program.nd (pi_tup (pv 0)) (blkOk_by (N := ["thing", "called", "part"]) (sc := defScope s_is_program) (by decide +kernel)) (fun _ _ _ _ _ => pg_name (i := 2) sc_is_program.nd rfl (Or.inl rfl)) (fun _ _ _ _ _ => pts_nil)
        (fun _ _ _ _ _ => pe_ix (r := rIxT K) ix_tup (pv 2) pe_int (fun _ _ => rfl))))
    (pss_one (ps_ret (pe_callB (cr_all rfl) rfl B.all bb_all (pa_cons
      (pe_lc (own := [("part", 2)]) (g := gName 2) (tt := tYes) rfl sc_is_program.nd (pi_tup (pv 0)) (blkOk_by (N := ["thing", "called", "part"]) (sc := defScope s_is_program) (by decide +kernel)) (fun _ _ _ _ _ => pg_name (i := 2) sc_is_program.nd rfl (Or.inl rfl)) (fun _ _ _ _ _ => pts_nil)
        (fun _ _ _ _ _ => pe_cd D2 G2 hr (pa_cons (pe_ix (r := rIxT K) ix_tup (pv 2) pe_int (fun _ _ => rfl)) (pa_cons (pv 1) pa_nil)))) pa_nil))))), ?_⟩
  have t1 := et_n (et_b ((ed_call (K := K) (b := b) (E := E0) (σ := start ["thing", "called", "part"] [v]) (pre := fun ds => ds.length = 2 ∧ ∀ d n, ds = [d, n] → okD 30 d = true ∧ ∃ i, n = .int i) (f := F2 fun d n => headedAll d (intOf n)) kn (ea_cons (ed_var (i := 0) rfl h1) (ea_cons (ed_c (v := .int 8) (.int 8)) ea_nil)) ⟨rfl, fun d n h' => by cases h'; exact ⟨hok, _, rfl⟩⟩).to (show _ = PyData.bool (headedAll d 8) from rfl)))
  cases hs : headedAll d 8 with
  | false =>
    rw [hs] at t1
    refine SR.fin ((sr_if (e := .none) t1 (fun _ => sr_ret ed_bl) fun h => nomatch h).to ?_) q
    have : progD d = false := by
      cases d <;> first | rfl | (show (headedAll _ 8 && _) = false; rw [hs]; rfl)
    show PyData.bool false = .bool (progD d)
    rw [this]
  | true =>
    rw [hs] at t1
    obtain ⟨ds, rfl⟩ : ∃ ds, d = .tuple ds := by
      cases d <;> first | exact ⟨_, rfl⟩ | cases hs
    have hlen := ok_len hok
    have okx : ∀ e ∈ ds, okD 29 e = true := fun e he => ok_items (n := 29) hok e he
    have ha : ds.all headedD = true := by
      have : ((decide (1 ≤ ds.length) && decide ((ds.length : Int) ≤ 8)) && (ds.all headedD && unlikeS (strsOf (ds.map fst)))) = true := hs
      exact (Bool.and_eq_true_iff.mp (Bool.and_eq_true_iff.mp this).2).1
    have hh : ∀ e ∈ ds, ∃ a c z, e = .tuple [a, c, z] ∧ nameD a = true ∧ namesD c = true := fun e he => headed_fst (List.all_eq_true.mp ha e he)
    have hst : (ds.map fst).all (isD "str") = true := List.all_eq_true.mpr fun x hx => by
      obtain ⟨e, he, rfl⟩ := List.mem_map.mp hx
      obtain ⟨a, c, z, rfl, h4, _⟩ := hh e he
      exact nameD_str h4
    have e1 := map_strsOf hst
    have hso : (strsOf (ds.map fst)).all PyData.strOk = true := List.all_eq_true.mpr fun x hx => by
      have : PyData.str x ∈ ds.map fst := by
        rw [← e1]
        exact List.mem_map.mpr ⟨x, hx, rfl⟩
      obtain ⟨e, he, ex⟩ := List.mem_map.mp this
      obtain ⟨a, c, z, rfl, h4, _⟩ := hh e he
      have ea : a = .str x := ex
      subst ea
      exact name_strOk h4
    refine SR.fin ((sr_if (d := .none) t1 (fun h => nomatch h) fun _ => sr_set (e := .list (ds.map fst)) (ed_lcT1 (f := fst) kn (ed_var rfl h1) (Nat.lt_of_le_of_lt hlen (by decide)) (fun e v' H3 he x3 hv => by
        obtain ⟨a, c, z, rfl, _, _⟩ := hh e he
        exact ed_ixT (ed_var rfl hv) ed_int (atI0 a [c, z])) (fun e he => by
        obtain ⟨a, c, z, rfl, h4, _⟩ := hh e he
        obtain ⟨x, rfl⟩ := isD_str (nameD_str h4)
        rfl)) fun v2 H2 x2 hv2 => sr_ret (ed_allT (g := fun p => rowsD (thd p) (strsOf (ds.map fst))) (kn.up x2) (ed_var rfl (Dq.up h1 x2)) hlen fun e v' H3 he x3 hv => by
          obtain ⟨a, c, z, rfl, _, _⟩ := hh e he
          have okz : okD 28 z = true := ok_items (n := 28) (okx _ he) z (by simp)
          refine (ed_call ((kn.up x2).up x3) (ea_cons (ed_ixT (ed_var rfl hv) ed_int (atI2 a c z [])) (ea_cons (ed_var rfl (Dq.up hv2 x3)) ea_nil)) ?_).to ?_
          · refine ⟨rfl, fun d' c' h' => ?_⟩
            cases h'
            exact ⟨ok_up okz (by omega), strsOf (ds.map fst), hso, by rw [e1]⟩
          · rfl)).to ?_) q
    show PyData.bool _ = PyData.bool (headedAll (.tuple ds) 8 && _)
    rw [hs]
    rfl
end
end Wr

set_option Elab.async false
set_option linter.all false
set_option maxRecDepth 100000
set_option maxHeartbeats 4000000
namespace Wr
open PySem PySem.Spec PyProof.Rows L2 Evl
/-! ### a method of a tuple -/
def tBMT (K : PySem.W.Frag) (r : V → List V → Hp → VK → Prop) (to : TE) (t : TA) : TE := fun σ H Q => to σ H fun x H1 => (∃ a xs, x = .ref a ∧ SqT K H1 a xs ∧ TN K H1 a) ∧ t σ H1 fun xs H2 => r x xs H2 Q
theorem tn_is {X : Cx} {pins : List (Addr × Obj)} {σ : L2.St} {H : Hp} {s : Shared} {a : Addr} (I : Inv X pins σ H s) (h : TN X.K H a) : ∃ o, s.heap.get? a = some o ∧ o.dict = none := by
  rcases h with ⟨o, u, h1, h2⟩ | ⟨o, h1, _, h2⟩
  · exact ⟨o, (I.hok a _ h1).1, h2⟩
  · exact ⟨o, I.kIn a o h1, h2⟩
theorem pe_bmT {X : Cx} {o e : Expr} {es : List Expr} {to : TE} {t : TA} {name : Str} {id : String} {apos cpos : Pos} {r : V → List V → Hp → VK → Prop} (slot : Slot "tuple" name id) (hty : typeOf (.builtin id) = pure (.type "method_descriptor")) (hm : MtR X id r) (ho : PE X o to) (ha : PA X (e :: es) t)
    (hbase : attributeBase o name X.env (eval o X.env) = eval o X.env := by rfl)
    (hfew : ((backTo cpos (starEach (e :: es) X.env)).all (fun x => !x.1) && (backToKw cpos (keywordEach [] X.env)).all (fun x => x.1.isSome) && decide ((e :: es).length + ([] : List Keyword).length + (if ([] : List Keyword).isEmpty then 0 else 1) < 30)) = true := by rfl)
    (hline : (apos.endLine == cpos.line) = true := by rfl) (hs : starEach (e :: es) X.env = (false, eval e X.env) :: starEach es X.env := by rfl) (hplain : (backTo cpos (starEach es X.env)).any (·.1) = false := by rfl) :
    PE X (.Call (.Attribute o name apos) (e :: es) [] cpos) (tBMT X.K r to t) := by
  refine ⟨fun pins s σ H Q I h => ?_⟩
  refine wpAny_Call_method_late hbase hfew hline rfl (thn (ho.run pins s σ H _ I h) fun v s1 ⟨x, H1, I1, r1, ty, q1⟩ => ?_)
  obtain ⟨a, xs, rfl, hq, hn⟩ := ty
  cases r1
  obtain ⟨its, rv, p, _⟩ := I1.tuple hq
  refine ⟨"tuple", id, PySem.F.plainAttrs_tuple, slot, hty, p.typeIs, fun b e => ?_, ?_⟩
  · cases e
    exact tn_is I1 hn
  · have hA := ha.run cpos pins s1 σ H1 _ I1 q1
    rw [hs] at hA ⊢
    refine Calls.callWith_builtin (by show (false || (backTo cpos (starEach es X.env)).any (·.1)) = false; rw [hplain] <;> rfl) (Calls.evalArgs_plain ?_)
    exact thn hA fun us s2 ⟨vs, H2, I2, r2, q2⟩ => hm pins s2 σ H2 (.ref a) vs (.ref a) us Q I2 rfl r2 q2
/-! ### count -/
def countD (d : PyData) (ds : List PyData) : Nat := ds.countP fun z => PyData.eqv z d
def rCountT (K : PySem.W.Frag) : V → List V → Hp → VK → Prop := fun x xs H Q => ∃ y d ds, xs = [y] ∧ Dp K H x (.tuple ds) ∧ Dp K H y d ∧ SeqAt.shaped (.tuple ds) = true ∧ SeqAt.shaped d = true ∧ Q (.int (countD d ds : Nat)) H
def rCountL (K : PySem.W.Frag) : V → List V → Hp → VK → Prop := fun x xs H Q => ∃ y d ds, xs = [y] ∧ Dp K H x (.list ds) ∧ Dp K H y d ∧ SeqAt.shaped (.list ds) = true ∧ SeqAt.shaped d = true ∧ Q (.int (countD d ds : Nat)) H
theorem count_map {h : Heap} {its : List Value} {ds : List PyData} {d : PyData} (hm : its.map (SeqAt.readOf h) = ds) : its.countP (fun u => PyData.eqv (SeqAt.readOf h u) d) = countD d ds := by
  unfold countD
  rw [← hm, List.countP_map]
  rfl
theorem mt_countT {X : Cx} (hu : X.A.units + 65 < cLine) : MtR X "tuple.count" (rCountT X.K) := by
  intro pins s σ H x xs v us Q I rx rxs ⟨y, d, ds, e1, hl, hy, sl, sd, q⟩
  subst e1
  obtain ⟨uy, rfl, ry⟩ := vals1 rxs
  obtain ⟨bs, r1⟩ := Dp.reads I d y uy hy ry
  have hxs : PyData.canLayAll0 ds = true := by
    have := SeqAt.canLay_of_shaped sl
    simpa only [PyData.canLay0] using this
  have hroom : X.A.units + 1 + min (PyData.depthAll ds) d.depth < cLine := room_in_shaped sd hu
  cases hl with
  | tup hs ha =>
    cases rx
    obtain ⟨its, rv, ⟨⟨cls, dd, data, sls⟩, ho, hc, n, hd⟩, hlen⟩ := I.tuple hs
    simp only at hc hd
    subst hc hd
    obtain ⟨as, h4⟩ := Dp.readsAll I ds _ its ha rv
    have hm := SeqAt.readsAll_map ds its as hxs h4
    refine call_meets PySem.F.slot_tuple_count ⟨_, ho, rfl⟩ PySem.F.entry_tuple_count (PySem.F.args_tuple_count_2 _ _)
      (SeqAt.tuple_countAt _ its.toArray n dd sls uy fun u => PyData.eqv (SeqAt.readOf s.heap u) d) ⟨ho, SeqAt.items_eqAt (vs := its.toArray) h4 r1 hxs (SeqAt.canLay_of_shaped sd) hroom, ?_⟩
    refine ⟨.int (countD d ds : Nat), H, I.tok _, ⟨s.toks, ?_⟩, q⟩
    rw [List.toList_toArray, count_map hm]
theorem mt_countL {X : Cx} (hu : X.A.units + 65 < cLine) : MtR X "list.count" (rCountL X.K) := by
  intro pins s σ H x xs v us Q I rx rxs ⟨y, d, ds, e1, hl, hy, sl, sd, q⟩
  subst e1
  obtain ⟨uy, rfl, ry⟩ := vals1 rxs
  obtain ⟨bs, r1⟩ := Dp.reads I d y uy hy ry
  have hxs : PyData.canLayAll0 ds = true := by
    have := SeqAt.canLay_of_shaped sl
    simpa only [PyData.canLay0] using this
  have hroom : X.A.units + 1 + min (PyData.depthAll ds) d.depth < cLine := room_in_shaped sd hu
  cases hl with
  | lst hs ha =>
    cases rx
    obtain ⟨its, rv, ⟨⟨cls, dd, data, sls⟩, n, ho, hc, hdn, hd⟩, hlen⟩ := I.list hs
    simp only at hc hd
    subst hc hd
    obtain ⟨as, h4⟩ := Dp.readsAll I ds _ its ha rv
    have hm := SeqAt.readsAll_map ds its as hxs h4
    refine call_meets PySem.F.slot_list_count ⟨_, ho, rfl⟩ PySem.F.entry_list_count (PySem.F.args_list_count_2 _ _)
      (SeqAt.list_countAt _ its.toArray n dd sls uy fun u => PyData.eqv (SeqAt.readOf s.heap u) d) ⟨ho, SeqAt.items_eqAt (vs := its.toArray) h4 r1 hxs (SeqAt.canLay_of_shaped sd) hroom, ?_⟩
    refine ⟨.int (countD d ds : Nat), H, I.tok _, ⟨s.toks, ?_⟩, q⟩
    rw [List.toList_toArray, count_map hm]
/-! ### not in range -/
def rNinR : R2 := fun x y H Q => ∃ i a lo hi, x = V.int i ∧ y = V.ref a ∧ H a = some (.rng lo hi) ∧ Q (.bl (!decide (lo ≤ i ∧ i < hi))) H
theorem op_ninR {X : Cx} : OpR X (compareOp .NotIn) rNinR := by
  intro pins s σ H x y v u Q I rx ry ⟨i, a, lo, hi, e1, e2, ha, q⟩
  subst e1 e2
  obtain ⟨k, rfl⟩ := rx
  obtain rfl : u = Value.ref a := ry
  obtain ⟨t1, t2, t3, ho⟩ := I.hok a _ ha
  show wpAny _ _ (do return Value.bool (!(← contains (Value.ref a) (Value.int i k)))) _ _ s
  refine wpAny_bind (wpAny_contains_slot (T := "range") ⟨_, ho, rfl⟩ PySem.F.slot_range_contains (call_meets PySem.F.slot_range_contains ⟨_, ho, rfl⟩ PySem.F.entry_range_contains
    (PySem.F.args_range_contains_2 _ _) (q_contains a lo hi i t1 t2 t3 k) ⟨ho, wpAny_truthy_bool (wpAny_pure ⟨.bl _, H, I, rfl, ?_⟩)⟩))
  rw [place1]
  exact q
section
variable {K : PySem.W.Frag} {b : List Addr} {σ : L2.St} {H H' : Hp} {ta tb te : TE} {tt : TT} {ts : TS} {d a c e : PyData} {ds : List PyData}
theorem ed_countT (ha : ED K b ta σ H (.tuple ds)) (hb : ED K b tb σ H d) (sl : SeqAt.shaped (.tuple ds) = true) (sd : SeqAt.shaped d = true) : ED K b (tBMT K (rCountT K) ta (tCons tb tNil)) σ H (.int (countD d ds : Nat)) := fun H1 x1 Q q =>
  ha H1 x1 _ fun x H2 x2 hx => by
    have hx' := hx
    cases hx' with
    | tup h1 hn _ =>
      exact ⟨⟨_, _, rfl, ex_t hid_le h1, hn.ex hid_le⟩, hb H2 (x1.trans x2) _ fun y H3 x3 hy => ⟨y, d, ds, rfl, (Dq.up hx x3).dp, hy.dp, sl, sd, q _ H3 (x2.trans x3) (.int _)⟩⟩
theorem ed_countL (ha : ED K b ta σ H (.list ds)) (hb : ED K b tb σ H d) (sl : SeqAt.shaped (.list ds) = true) (sd : SeqAt.shaped d = true) : ED K b (tBM K "list" (rCountL K) ta (tCons tb tNil)) σ H (.int (countD d ds : Nat)) := fun H1 x1 Q q =>
  ha H1 x1 _ fun x H2 x2 hx => by
    have hx' := hx
    cases hx' with
    | lst h1 _ =>
      exact ⟨.inl ⟨rfl, _, ex_l hid_le h1⟩, hb H2 (x1.trans x2) _ fun y H3 x3 hy => ⟨y, d, ds, rfl, (Dq.up hx x3).dp, hy.dp, sl, sd, q _ H3 (x2.trans x3) (.int _)⟩⟩
theorem sr_unpack3 {i j k : Nat} (h : ED K b te σ H (.tuple [a, c, e])) (kk : ∀ v1 v2 v3 H', Ex H H' → Dq K b H' v1 a → Dq K b H' v2 c → Dq K b H' v3 e → SR K b ts (((σ.set i (some v1)).set j (some v2)).set k (some v3)) H' d) :
    SR K b (tSeq (tAsg te (gTup K 3 (gCons (gName i) (gCons (gName j) (gCons (gName k) gNil))))) ts) σ H d := fun H1 x1 D q =>
  h H1 x1 _ fun v H2 x2 hv => by
    cases hv with
    | tup h1 _ h2 =>
      cases h2 with
      | cons p1 p2 =>
        cases p2 with
        | cons p3 p4 =>
          cases p4 with
          | cons p5 p6 =>
            cases p6
            exact ⟨_, _, rfl, ex_t hid_le h1, rfl, _, _, rfl, _, _, rfl, _, _, rfl, rfl, kk _ _ _ H2 (x1.trans x2) p1 p3 p5 H2 (Ex.refl H2) D fun z H4 x4 hz => q _ H4 (x2.trans x4) hz⟩
/-- one sign in a written text -/
def rInSg : R2 := fun x y H Q => ∃ (c : Nat) (z : Str), x = .str ⟨#[c]⟩ ∧ y = .str z ∧ Q (.bl (decide (c ∈ z.cps.toList))) H
theorem op_inSg {X : Cx} : OpR X (compareOp .In) rInSg := op_in_sign
theorem ed_inSg {c : Nat} {z : Str} (ha : ED K b ta σ H (.str ⟨#[c]⟩)) (hb : ED K b tb σ H (.str z)) : ED K b (tOp rInSg ta tb) σ H (.bool (decide (c ∈ z.cps.toList))) :=
  ed_op ha hb fun H1 x y Q _ hx hy q => ⟨c, z, dq_str hx, dq_str hy, q _ H1 (Ex.refl H1) (.bl _)⟩
/-- sep.join(texts) -/
def rJoin (K : PySem.W.Frag) : V → List V → Hp → VK → Prop := fun x xs H Q => ∃ a p, ∃ ys : List Str, x = .str a ∧ xs = [.ref p] ∧ (SqL K H p (ys.map V.str) ∨ SqT K H p (ys.map V.str)) ∧ (ys.map (·.length)).sum + ys.length * a.length ≤ 16777216 ∧ Q (.str (Txt.join a ys)) H
theorem mt_joinD {X : Cx} : MtR X "str.join" (rJoin X.K) := mt_join
theorem ed_join {z : Str} {ys : List Str} (ha : ED K b ta σ H (.str z)) (hb : ED K b tb σ H (.list (ys.map PyData.str))) (hl : (ys.map (·.length)).sum + ys.length * z.length ≤ 16777216) : ED K b (tBM K "str" (rJoin K) ta (tCons tb tNil)) σ H (.str (Txt.join z ys)) := fun H1 x1 Q q =>
  ha H1 x1 _ fun x H2 x2 hx => by
    cases hx
    refine ⟨rfl, hb H2 (x1.trans x2) _ fun y H3 x3 hy => ?_⟩
    have hy' := hy.dd
    cases hy' with
    | lst h1 h2 =>
      rw [dps_strs h2] at h1
      exact ⟨z, _, ys, rfl, rfl, .inl h1, hl, q _ H3 (x2.trans x3) (.str _)⟩
/-- text.split(sep) -/
def rSplit : V → List V → Hp → VK → Prop := fun x xs H Q => ∃ a b, x = .str a ∧ xs = [.str b] ∧ (b.length == 0) = false ∧ a.length + 2 ≤ sizeLine ∧ rNewStrs (Txt.split a b) H Q
theorem mt_splitD {X : Cx} : MtR X "str.split" rSplit := mt_split
theorem ed_split {z y : Str} (kn : Kn b H) (ha : ED K b ta σ H (.str z)) (hb : ED K b tb σ H (.str y)) (hy : (y.length == 0) = false) (hl : z.length + 2 ≤ sizeLine) : ED K b (tBM K "str" rSplit ta (tCons tb tNil)) σ H (.list ((Txt.split z y).map PyData.str)) := fun H1 x1 Q q =>
  ha H1 x1 _ fun x H2 x2 hx => by
    cases hx
    refine ⟨rfl, hb H2 (x1.trans x2) _ fun v H3 x3 hv => ?_⟩
    cases hv
    exact ⟨z, y, rfl, rfl, hy, hl, fun p hp => q _ _ ((x2.trans x3).trans (Ex.new hp)) (.lst (.inl (.inl (hid_new ((kn.up ((x1.trans x2).trans x3)).new hp)))) (strs_dps _))⟩
/-- len(..) not in range(lo, hi) -/
theorem ed_ninR {i lo hi : Int} {tlo thi : TE} (ha : ED K b ta σ H (.int i)) (h1 : ED K b tlo σ H (.int lo)) (h2 : ED K b thi σ H (.int hi)) :
    ED K b (tOp rNinR ta (tCB (fun vs H Q => ∃ i j, vs = [V.int i, V.int j] ∧ ∀ p, H p = none → Q (.ref p) (upd H p (.rng i j))) (tCons tlo (tCons thi tNil)))) σ H (.bool (!decide (lo ≤ i ∧ i < hi))) := fun H1 x1 Q q =>
  ha H1 x1 _ fun x H2 x2 hx => h1 H2 (x1.trans x2) _ fun y H3 x3 hy => h2 H3 ((x1.trans x2).trans x3) _ fun z H4 x4 hz => ⟨lo, hi, by rw [dq_int hy, dq_int hz], fun p hp =>
    ⟨i, p, lo, hi, dq_int hx, rfl, upd_same, q _ _ (((x2.trans x3).trans x4).trans (Ex.new hp)) (.bl _)⟩⟩
end
end Wr

set_option Elab.async false
set_option linter.all false
set_option maxRecDepth 100000
set_option maxHeartbeats 4000000
namespace Wr
open PySem PySem.Spec PyProof.Rows L2 Evl
abbrev abc : Str := "abcdefghijklmnopqrstuvwxyz"
/-! ### what a name is, told twice -/
def azS (x : Str) : Bool := decide (1 ≤ x.length ∧ x.length < 9) && x.cps.toList.all fun c => decide (c ∈ abc.cps.toList)
theorem abc_mem (c : Nat) : c ∈ abc.cps.toList ↔ 97 ≤ c ∧ c ≤ 122 := by
  have e : abc.cps.toList = (List.range 26).map (· + 97) := by decide +kernel
  rw [e, List.mem_map]
  constructor
  · rintro ⟨a, ha, rfl⟩
    have := List.mem_range.mp ha
    omega
  · rintro ⟨h1, h2⟩
    exact ⟨c - 97, List.mem_range.mpr (by omega), by omega⟩
theorem uni_tab : ((List.range 128).all fun c => (Unicode.isAlpha c && !(Unicode.isUpper c || Unicode.isTitle c)) == (decide (97 ≤ c) && decide (c ≤ 122)) && ((!(decide (97 ≤ c) && decide (c ≤ 122))) || Unicode.isLower c)) = true := by decide +kernel
theorem uni_at {c : Nat} (h : c < 128) : (Unicode.isAlpha c && !(Unicode.isUpper c || Unicode.isTitle c)) = (decide (97 ≤ c) && decide (c ≤ 122)) ∧ ((97 ≤ c ∧ c ≤ 122) → Unicode.isLower c = true) := by
  have q := List.all_eq_true.mp uni_tab c (List.mem_range.mpr h)
  rw [Bool.and_eq_true] at q
  refine ⟨by simpa using q.1, fun h' => ?_⟩
  have q2 := q.2
  rw [decide_eq_true h'.1, decide_eq_true h'.2] at q2
  simpa using q2
theorem nameS_az (x : Str) : nameS x = azS x := by
  have key : nameS x = true ↔ azS x = true := by
    unfold nameS azS Txt.isascii Txt.isalpha Txt.islower
    simp only [Bool.and_eq_true, decide_eq_true_eq, Array.all_eq_true', List.all_eq_true, Bool.not_eq_true', Array.any_eq_false', Array.any_eq_true']
    constructor
    · rintro ⟨h8, ha, ⟨h0, hal⟩, ⟨c, hc, hl⟩, hn⟩
      have hlen : 0 < x.length := h0
      refine ⟨⟨by omega, by omega⟩, fun c hc => ?_⟩
      have hc' : c ∈ x.cps := by simpa using hc
      have h1 := (uni_at (ha c hc')).1
      have h2 := hal c hc'
      have h3 := hn c hc'
      have h3' : (Unicode.isUpper c || Unicode.isTitle c) = false := by simpa using h3
      rw [h2, h3'] at h1
      have h1' : (decide (97 ≤ c) && decide (c ≤ 122)) = true := h1.symm
      rw [Bool.and_eq_true] at h1'
      exact (abc_mem c).mpr ⟨of_decide_eq_true h1'.1, of_decide_eq_true h1'.2⟩
    · rintro ⟨⟨h1, h2⟩, hall⟩
      have az : ∀ c ∈ x.cps, 97 ≤ c ∧ c ≤ 122 := fun c hc => (abc_mem c).mp (hall c (by simpa using hc))
      have hs : 0 < x.cps.size := h1
      refine ⟨by omega, fun c hc => by have := az c hc; omega, ⟨hs, fun c hc => ?_⟩, ⟨x.cps[0], Array.getElem_mem hs, ?_⟩, fun c hc => ?_⟩
      · have h := (uni_at (c := c) (by have := az c hc; omega)).1
        rw [decide_eq_true (az c hc).1, decide_eq_true (az c hc).2] at h
        simp only [Bool.and_self, Bool.and_eq_true] at h
        exact h.1
      · have h := az _ (Array.getElem_mem hs)
        exact (uni_at (by omega)).2 h
      · have h := (uni_at (c := c) (by have := az c hc; omega)).1
        rw [decide_eq_true (az c hc).1, decide_eq_true (az c hc).2] at h
        simp only [Bool.and_self, Bool.and_eq_true] at h
        simpa using h.2
  cases h1 : nameS x <;> cases h2 : azS x
  · rfl
  · rw [h1, h2] at key; exact absurd (key.mpr rfl) (by decide)
  · rw [h1, h2] at key; exact absurd (key.mp rfl) (by decide)
  · rfl
end Wr

set_option Elab.async false
set_option linter.all false
set_option maxRecDepth 100000
set_option maxHeartbeats 4000000
namespace Wr
open PySem PySem.Spec PyProof.Rows L2 Evl
theorem fold_signs : ∀ (cs : List Nat) (acc : Array Nat), (cs.map fun c => (⟨#[c]⟩ : Str)).foldl (fun acc p => acc ++ (Str.ofString "").cps ++ p.cps) acc = acc ++ cs.toArray
  | [], acc => by simp
  | c :: cs, acc => by
    rw [List.map_cons, List.foldl_cons, fold_signs cs]
    have e : (Str.ofString "").cps = #[] := by decide +kernel
    rw [e]
    simp
theorem join_signs (cs : List Nat) : Txt.join "" (cs.map fun c => (⟨#[c]⟩ : Str)) = ⟨cs.toArray⟩ := by
  cases cs with
  | nil => decide +kernel
  | cons c r =>
    show (⟨(r.map fun c => (⟨#[c]⟩ : Str)).foldl (fun acc p => acc ++ (Str.ofString "").cps ++ p.cps) #[c]⟩ : Str) = _
    rw [fold_signs]
    congr 1
    simp
theorem len_signs (cs : List Nat) : ((cs.map fun c => (⟨#[c]⟩ : Str)).map (·.length)).sum = cs.length := by
  induction cs with
  | nil => rfl
  | cons c r ih =>
    rw [List.map_cons, List.map_cons, List.sum_cons, ih, List.length_cons]
    show 1 + r.length = r.length + 1
    omega
theorem strEq (x y : Str) : PyData.eqv (.str x) (.str y) = decide (x = y) := by
  simp only [PyData.eqv]
  rfl
theorem kept_eq (x : Str) (p : Nat → Bool) : decide (x = ⟨(x.cps.toList.filter p).toArray⟩) = x.cps.toList.all p := by
  by_cases h : x.cps.toList.all p = true
  · rw [h]
    apply decide_eq_true
    have e : x.cps.toList.filter p = x.cps.toList := List.filter_eq_self.mpr fun c hc => List.all_eq_true.mp h c hc
    rw [e]
  · have h' := Bool.eq_false_iff.mpr h
    rw [h']
    apply decide_eq_false
    intro e
    apply h
    have e2 : x.cps.toList = x.cps.toList.filter p := by
      have := congrArg (fun s : Str => s.cps.toList) e
      simpa using this
    rw [List.all_eq_true]
    intro c hc
    rw [e2] at hc
    exact (List.mem_filter.mp hc).2
section
variable {P : Program} {w : World} {K : PySem.W.Frag} {mg : Str → Option Value} {base : Heap} {f g g2 g3 g4 g5 : Addr} {fd gd gd2 gd3 gd4 gd5 : FuncData}
theorem bt_range : bootBuiltins "range" = some (.type "range") := by decide +kernel
end
end Wr

set_option Elab.async false
set_option linter.all false
set_option maxRecDepth 100000
set_option maxHeartbeats 4000000
namespace Wr
open PySem PySem.Spec PyProof.Rows L2 Evl
theorem inD_str (z : Str) (ws : List Str) : inD (.str z) (ws.map .str) = decide (z ∈ ws) := by
  unfold inD
  by_cases h : z ∈ ws
  · rw [decide_eq_true h]
    exact List.any_eq_true.mpr ⟨.str z, List.mem_map.mpr ⟨z, h, rfl⟩, by rw [strEq]; exact decide_eq_true rfl⟩
  · rw [decide_eq_false h]
    apply Bool.eq_false_iff.mpr
    intro q
    obtain ⟨y, hy, e⟩ := List.any_eq_true.mp q
    obtain ⟨x, hx, rfl⟩ := List.mem_map.mp hy
    rw [strEq] at e
    exact h (of_decide_eq_true e ▸ hx)
theorem eqv_nstr {d : PyData} (h : isD "str" d = false) (x : Str) : PyData.eqv d (.str x) = false := by
  cases d <;> first | (simp only [PyData.eqv]; done) | (simp [isD, dTy, tyIs] at h)
theorem eqv_strn {d : PyData} (h : isD "str" d = false) (x : Str) : PyData.eqv (.str x) d = false := by
  cases d <;> first | (simp only [PyData.eqv]; done) | (simp [isD, dTy, tyIs] at h)
theorem inD_nstr {d : PyData} (h : isD "str" d = false) (ws : List Str) : inD d (ws.map .str) = false := by
  unfold inD
  apply Bool.eq_false_iff.mpr
  intro q
  obtain ⟨y, hy, e⟩ := List.any_eq_true.mp q
  obtain ⟨x, hx, rfl⟩ := List.mem_map.mp hy
  rw [eqv_strn h] at e
  cases e
theorem whole_worth (c : PyData) : (wholeD c && worthD c) = worthD c := by
  cases c <;> first | rfl | (simp [wholeD, isD, dTy, tyIs, worthD])
theorem whole_index (c : PyData) (m : Int) (k : Bool) : (wholeD c && (indexD c m && k)) = (indexD c m && k) := by
  cases c <;> first | rfl | (simp [wholeD, isD, dTy, tyIs, indexD])
abbrev aloneT : Str := "add less times over same below twin swap away say back throw done lead turn"
theorem split_alone : Txt.split aloneT " " = loneW := by decide +kernel
theorem eqv_nil (ds : List PyData) : PyData.eqv (.tuple ds) (.tuple []) = ds.isEmpty := by
  cases ds <;> simp only [PyData.eqv, PyData.eqvAll, List.isEmpty]
theorem eqv_nilT (d : PyData) : PyData.eqv d (.tuple []) = (match d with | .tuple [] => true | _ => false) := by
  cases d with
  | tuple ds => rw [eqv_nil]; cases ds <;> rfl
  | _ => simp only [PyData.eqv]
theorem sh_nil : SeqAt.shaped (.tuple []) = true := (sh_strs (xs := []) rfl).1
def RowPre2 (ds : List PyData) : Prop := ds.length = 4 ∧ ∀ d i m c, ds = [d, i, m, c] → okD 30 d = true ∧ (∃ k, i = .int k) ∧ (∃ k, m = .int k) ∧ ∃ xs : List Str, xs.all nameS = true ∧ c = .list (xs.map .str)
theorem in_called {c : PyData} {xs : List Str} (hx : xs.all nameS = true) (h : inD c (xs.map .str) = true) : nameD c = true := by
  cases hs : isD "str" c with
  | false => rw [inD_nstr hs] at h; cases h
  | true =>
    obtain ⟨x, rfl⟩ := isD_str hs
    rw [inD_str] at h
    exact List.all_eq_true.mp hx x (of_decide_eq_true h)
def nameW5 : List Str := ["get", "set", "look", "change", "call"]
theorem nameW5_iff (z : Str) : z ∈ nameW5 ↔ z ∈ nameW ∨ z = "call" := by
  simp only [nameW5, nameW, List.mem_cons, List.not_mem_nil, or_false, or_assoc]
/-- the law's own reading of a row of two is the program's -/
theorem row_two (z : Str) (c : PyData) (i m : Int) (xs : List Str) (hx : xs.all nameS = true) :
    (if decide (z = "put") = true then PyData.bool (wholeD c && worthD c)
      else if decide (z ∈ rowW) = true then .bool (wholeD c && (indexD c m && !(decide (z = "try") && PyData.eqv c (.int (i + 1)))))
      else if ((!decide (z ∈ nameW5)) || !nameD c) = true then .bool false
      else .bool ((!decide (z = "call")) || inD c (xs.map .str))) = .bool (rowD (.tuple [.str z, c]) i m xs) := by
  rw [rowD_two, strEq, strEq, strEq, inD_str, inD_str, whole_worth, whole_index]
  by_cases h1 : z = "put"
  · subst h1
    rfl
  · rw [decide_eq_false h1]
    simp only [Bool.false_eq_true, if_false]
    by_cases h2 : z ∈ rowW
    · have h3 : z ∉ nameW := by
        rcases (show z = "go" ∨ z = "if" ∨ z = "try" by simpa [rowW] using h2) with rfl | rfl | rfl <;> decide +kernel
      have h4 : z ≠ "call" := by
        rcases (show z = "go" ∨ z = "if" ∨ z = "try" by simpa [rowW] using h2) with rfl | rfl | rfl <;> decide +kernel
      simp only [decide_eq_true h2, decide_eq_false h3, decide_eq_false h4, if_true, Bool.false_eq_true, if_false, Bool.true_and]
    · simp only [decide_eq_false h2, Bool.false_eq_true, if_false, Bool.false_and]
      by_cases h3 : z ∈ nameW
      · have h4 : z ≠ "call" := by
          rcases (show z = "get" ∨ z = "set" ∨ z = "look" ∨ z = "change" by simpa [nameW] using h3) with rfl | rfl | rfl | rfl <;> decide +kernel
        have h5 : z ∈ nameW5 := (nameW5_iff z).mpr (.inl h3)
        simp only [decide_eq_true h3, decide_eq_false h4, decide_eq_true h5, if_true, Bool.not_true, Bool.false_or, Bool.not_false, Bool.true_or]
        cases nameD c <;> rfl
      · by_cases h4 : z = "call"
        · have h5 : z ∈ nameW5 := (nameW5_iff z).mpr (.inr h4)
          simp only [decide_eq_false h3, decide_eq_true h4, decide_eq_true h5, if_true, Bool.not_true, Bool.false_or, Bool.false_eq_true, if_false]
          cases hn : nameD c with
          | true => rfl
          | false =>
            have : inD c (xs.map .str) = false := by
              cases hi : inD c (xs.map .str) with
              | false => rfl
              | true => rw [in_called hx hi] at hn; cases hn
            rw [this]
            rfl
        · have h5 : z ∉ nameW5 := fun h => by
            rcases (nameW5_iff z).mp h with h | h
            · exact h3 h
            · exact h4 h
          simp only [decide_eq_false h3, decide_eq_false h4, decide_eq_false h5, Bool.not_false, Bool.true_or, if_true, Bool.false_eq_true, if_false]
section
variable {P : Program} {w : World} {K : PySem.W.Frag} {mg : Str → Option Value} {base : Heap} {f g g2 g3 g4 g5 : Addr} {fd gd gd2 gd3 gd4 gd5 : FuncData}
end
end Wr

set_option Elab.async false
set_option linter.all false
set_option maxRecDepth 100000
set_option maxHeartbeats 4000000
namespace Wr
open PySem PySem.Spec PyProof.Rows L2 Evl
abbrev NP2 : List Str := ["_law_part", "_law_called", "_law_name", "_law_names_here", "_law_rows", "_law_many", "_law_some", "_law_one", "_law_at", "_law_row"]
abbrev NG2 : List Str := ["_law_thing", "_law_called", "_law_part", "_law_name"]
/-! ### no text twice, told by counts -/
theorem count_strs (x : Str) (xs : List Str) : countD (.str x) (xs.map .str) = xs.count x := by
  unfold countD
  rw [List.countP_map, List.count]
  refine congrArg (fun p => List.countP p xs) (funext fun y => ?_)
  show PyData.eqv (.str y) (.str x) = (y == x)
  rw [strEq]
  by_cases h : y = x
  · rw [decide_eq_true h, h, beq_self_eq_true]
  · rw [decide_eq_false h, beq_eq_false_iff_ne.mpr h]
theorem twice_unlike (xs : List Str) : (xs.filter fun x => decide ((1 : Int) < (xs.count x : Nat))).isEmpty = unlikeS xs := by
  unfold unlikeS
  by_cases h : xs.Nodup
  · rw [decide_eq_true ((uq_len_iff xs).mpr h)]
    have : xs.filter (fun x => decide ((1 : Int) < (xs.count x : Nat))) = [] := List.filter_eq_nil_iff.mpr fun x hx => by
      have := List.nodup_iff_count.mp h x
      intro q
      have := of_decide_eq_true q
      omega
    rw [this]
    rfl
  · rw [decide_eq_false fun e => h ((uq_len_iff xs).mp e)]
    cases hf : xs.filter (fun x => decide ((1 : Int) < (xs.count x : Nat))) with
    | cons a r => rfl
    | nil =>
      exfalso
      apply h
      rw [List.nodup_iff_count]
      intro x
      by_cases hx : x ∈ xs
      · have := List.filter_eq_nil_iff.mp hf x hx
        have q : ¬ (1 : Int) < (xs.count x : Nat) := fun q => this (decide_eq_true q)
        omega
      · rw [List.count_eq_zero_of_not_mem hx]
        exact Nat.zero_le _
theorem eqv_nilL (ds : List PyData) : PyData.eqv (.list ds) (.list []) = ds.isEmpty := by
  cases ds <;> simp only [PyData.eqv, PyData.eqvAll, List.isEmpty]
theorem sh_nilL : SeqAt.shaped (.list []) = true := (sh_strs (xs := []) rfl).2
def headed2D (d : PyData) : Bool := match d with
  | .tuple [a, _, _] => nameD a
  | _ => false
def partD (d : PyData) (called : List Str) : Bool := match d with
  | .tuple [_, c, e] => namesD c && rowsD e called
  | _ => false
def partF (ds : List PyData) : PyData := match ds with
  | [d, .list cs] => .bool (partD d (strsOf cs))
  | _ => .none
def PartPre (ds : List PyData) : Prop := ds.length = 2 ∧ ∀ d c, ds = [d, c] → okD 30 d = true ∧ (∃ a e f, d = .tuple [a, e, f]) ∧ ∃ xs : List Str, xs.all nameS = true ∧ c = .list (xs.map .str)
section
variable {P : Program} {w : World} {K : PySem.W.Frag} {mg : Str → Option Value} {base : Heap} {f g g2 g3 g4 g5 : Addr} {fd gd gd2 gd3 gd4 gd5 : FuncData}
end
end Wr

set_option Elab.async false
set_option linter.all false
set_option maxRecDepth 100000
set_option maxHeartbeats 4000000
namespace Wr
open PySem PySem.Spec PyProof.Rows L2 Evl
theorem headed2_of {d : PyData} (h : headed2D d = true) : ∃ a c e, d = .tuple [a, c, e] ∧ nameD a = true := by
  unfold headed2D at h
  split at h
  · rename_i a c e
    exact ⟨a, c, e, rfl, h⟩
  · cases h
theorem all_both {α : Type} (p q : α → Bool) : ∀ xs : List α, (xs.all p && xs.all q) = xs.all fun x => p x && q x
  | [] => rfl
  | x :: xs => by
    rw [List.all_cons, List.all_cons, List.all_cons, ← all_both p q xs]
    cases p x <;> cases q x <;> cases xs.all p <;> simp
theorem part_eq (p : PyData) (xs : List Str) : (headedD p && rowsD (thd p) xs) = (headed2D p && partD p xs) := by
  match p with
  | .none => rfl
  | .bool _ => rfl
  | .int _ => rfl
  | .str _ => rfl
  | .list _ => rfl
  | .dict _ => rfl
  | .tuple [] => rfl
  | .tuple [_] => rfl
  | .tuple [_, _] => rfl
  | .tuple [a, c, e] => exact Bool.and_assoc _ _ _
  | .tuple (_ :: _ :: _ :: _ :: _) => rfl
/-- both readings of a program come to the same -/
theorem prog_two (ds : List PyData) : progD (.tuple ds) = (decide (1 ≤ ds.length ∧ ds.length < 9) && (ds.all headed2D && (unlikeS (strsOf (ds.map fst)) && ds.all fun p => partD p (strsOf (ds.map fst))))) := by
  show (((decide (1 ≤ ds.length) && decide ((ds.length : Int) ≤ 8)) && (ds.all headedD && unlikeS (strsOf (ds.map fst)))) && ds.all fun p => rowsD (thd p) (strsOf (ds.map fst))) = _
  generalize strsOf (ds.map fst) = xs
  have e1 : (decide (1 ≤ ds.length) && decide ((ds.length : Int) ≤ 8)) = decide (1 ≤ ds.length ∧ ds.length < 9) := by
    by_cases h : 1 ≤ ds.length ∧ ds.length < 9
    · rw [decide_eq_true h, decide_eq_true h.1, decide_eq_true (by omega)]
      rfl
    · rw [decide_eq_false h]
      by_cases h1 : 1 ≤ ds.length
      · rw [decide_eq_true h1, decide_eq_false (by omega)]
        rfl
      · rw [decide_eq_false h1]
        rfl
  rw [e1]
  have e2 : (ds.all headedD && ds.all fun p => rowsD (thd p) xs) = (ds.all headed2D && ds.all fun p => partD p xs) := by
    rw [all_both, all_both]
    congr 1
    funext p
    exact part_eq p xs
  cases decide (1 ≤ ds.length ∧ ds.length < 9) with
  | false => rfl
  | true =>
    cases unlikeS xs with
    | false => simp
    | true =>
      simp only [Bool.true_and, Bool.and_true]
      exact e2
section
variable {P : Program} {w : World} {K : PySem.W.Frag} {mg : Str → Option Value} {base : Heap} {f g g2 g3 g4 g5 : Addr} {fd gd gd2 gd3 gd4 gd5 : FuncData}
end
end Wr

set_option Elab.async false
set_option linter.all false
set_option maxRecDepth 100000
set_option maxHeartbeats 4000000
namespace Wr
open PySem PySem.Spec PyProof.Rows L2 Evl
/-! ### a heap that grows but for the bag at a -/
def ExB (a : Addr) (H H' : Hp) : Prop := ∀ c o, c ≠ a → H c = some o → H' c = some o
theorem ExB.refl (a : Addr) (H : Hp) : ExB a H H := fun _ _ _ h => h
theorem ExB.trans {a : Addr} {H H1 H2 : Hp} (x : ExB a H H1) (y : ExB a H1 H2) : ExB a H H2 := fun c o n h => y c o n (x c o n h)
theorem exb {a : Addr} {H H1 : Hp} (x : Ex H H1) : ExB a H H1 := fun c o _ h => x c o h
theorem hid_exB {b : List Addr} {a : Addr} {H H' : Hp} (ha : a ∈ b) (e : ExB a H H') : Ex (hid b H) (hid b H') := fun c o h => by
  obtain ⟨h1, h2⟩ := hid_some h
  rw [hid_ne h1]
  exact e c o (fun z => h1 (z ▸ ha)) h2
theorem Dq.upB {K : PySem.W.Frag} {b : List Addr} {a : Addr} {H H' : Hp} {v : V} {d : PyData} (ha : a ∈ b) (h : Dq K b H v d) (e : ExB a H H') : Dq K b H' v d := dp_ex (hid_exB ha e) d v h
theorem DqAll.upB {K : PySem.W.Frag} {b : List Addr} {a : Addr} {H H' : Hp} {vs : List V} {ds : List PyData} (ha : a ∈ b) (h : DqAll K b H vs ds) (e : ExB a H H') : DqAll K b H' vs ds := dps_ex (hid_exB ha e) ds vs h
/-- the bag at a, from which n things may be taken -/
def Bag (a : Addr) (n : Nat) (H : Hp) : Prop := ∃ g x c : Int, H a = some (.lst [.int g, .int x, .int c]) ∧ 0 ≤ g ∧ 0 ≤ x ∧ x < 2000000000000000000 ∧ 0 ≤ c ∧ c + (n : Int) ≤ 1000000
theorem Bag.le {a : Addr} {n m : Nat} {H : Hp} (h : Bag a n H) (hm : m ≤ n) : Bag a m H := by
  obtain ⟨g, x, c, h1, h2, h3, h4, h5, h6⟩ := h
  exact ⟨g, x, c, h1, h2, h3, h4, h5, by omega⟩
theorem Bag.ex {a : Addr} {n : Nat} {H H' : Hp} (h : Bag a n H) (e : Ex H H') : Bag a n H' := by
  obtain ⟨g, x, c, h1, r⟩ := h
  exact ⟨g, x, c, e _ _ h1, r⟩
theorem Bag.there {a : Addr} {n : Nat} {H : Hp} (h : Bag a n H) : H a ≠ none := by
  obtain ⟨g, x, c, h1, _⟩ := h
  rw [h1]
  intro z
  cases z
theorem Bag.kn {a : Addr} {n : Nat} {H : Hp} (h : Bag a n H) : Kn [a] H := fun c hc => by
  rw [List.mem_singleton.mp hc]
  exact h.there
theorem ExB.kn {a : Addr} {n : Nat} {b : List Addr} {H H' : Hp} (k : Kn b H) (x : ExB a H H') (h : Bag a n H') : Kn b H' := fun c hc z => by
  by_cases e : c = a
  · subst e
    exact h.there z
  · cases q : H c with
    | none => exact k c hc q
    | some o =>
      rw [x c o e q] at z
      cases z
/-! ### what is evaluated while things are taken from the bag -/
section
variable (K : PySem.W.Frag) (b : List Addr) (a : Addr) (n m : Nat)
def EG (te : TE) (σ : L2.St) (H : Hp) (P : PyData → Prop) : Prop := ∀ H1, ExB a H H1 → Kn b H1 → Bag a n H1 → ∀ Q : VK, (∀ v d H2, ExB a H1 H2 → Bag a m H2 → Dq K b H2 v d → P d → Q v H2) → te σ H1 Q
def EGA (ta : TA) (σ : L2.St) (H : Hp) (P : List PyData → Prop) : Prop := ∀ H1, ExB a H H1 → Kn b H1 → Bag a n H1 → ∀ Q : List V → Hp → Prop, (∀ vs ds H2, ExB a H1 H2 → Bag a m H2 → DqAll K b H2 vs ds → P ds → Q vs H2) → ta σ H1 Q
def GS (ts : TS) (σ : L2.St) (H : Hp) (P : PyData → Prop) : Prop := ∀ H1, ExB a H H1 → Kn b H1 → Bag a n H1 → ∀ D : Ends, (∀ v d H2, ExB a H1 H2 → Bag a m H2 → Dq K b H2 v d → P d → D.rt v H2) → ts D σ H1
end
/-- a def that takes from the bag: at most n things; its data in, one datum out -/
def spG (K : PySem.W.Frag) (n : Nat) (pre : List PyData → Prop) (P : List PyData → PyData → Prop) : Sp := fun vs H Q _ =>
  ∃ b a k ws ds, vs = .ref a :: ws ∧ a ∈ b ∧ Kn b H ∧ Bag a (k + n) H ∧ DqAll K b H ws ds ∧ pre ds ∧ ∀ v d H', ExB a H H' → Bag a k H' → Dq K b H' v d → P ds d → Q v H'
section
variable {K : PySem.W.Frag} {b : List Addr} {a : Addr} {n m k : Nat} {σ : L2.St} {H H' : Hp} {ta tb te : TE} {t : TA} {tt : TT} {ts t1 t2 : TS} {P P' : PyData → Prop} {d : PyData}
theorem EG.imp (h : EG K b a n m te σ H P) (hp : ∀ d, P d → P' d) : EG K b a n m te σ H P' := fun H1 x1 kn bg Q q => h H1 x1 kn bg Q fun v d H2 x2 b2 hv p => q v d H2 x2 b2 hv (hp d p)
theorem EG.mono (x : ExB a H H') (h : EG K b a n m te σ H P) : EG K b a n m te σ H' P := fun H1 x1 => h H1 (x.trans x1)
theorem EG.le {m' : Nat} (h : EG K b a n m te σ H P) (hm : m' ≤ m) : EG K b a n m' te σ H P := fun H1 x1 kn bg Q q => h H1 x1 kn bg Q fun v d H2 x2 b2 hv p => q v d H2 x2 (b2.le hm) hv p
theorem eg_pure (h : ∀ H1, ExB a H H1 → Kn b H1 → ED K b te σ H1 d) (p : P d) : EG K b a n n te σ H P := fun H1 x1 kn bg Q q => h H1 x1 kn H1 (Ex.refl H1) Q fun v H2 x2 hv => q v d H2 (exb x2) (bg.ex x2) hv p
theorem eg_var {i : Nat} {v : V} (hv : σ[i]? = some (some v)) (ha : a ∈ b) (hd : Dq K b H v d) (p : P d) : EG K b a n n (tVar i) σ H P := eg_pure (fun H1 x1 _ => ed_var hv (hd.upB ha x1)) p
theorem ega_nil : EGA K b a n n tNil σ H (· = []) := fun H1 x1 kn bg Q q => q [] [] H1 (ExB.refl a H1) bg .nil rfl
theorem ega_cons {R : List PyData → Prop} (ha : a ∈ b) (h1 : EG K b a n k ta σ H P) (h2 : EGA K b a k m t σ H R) : EGA K b a n m (tCons ta t) σ H (fun ds => ∃ d r, ds = d :: r ∧ P d ∧ R r) := fun H1 x1 kn bg Q q =>
  h1 H1 x1 kn bg _ fun v d H2 x2 b2 hv p => h2 H2 (x1.trans x2) (x2.kn kn b2) b2 _ fun vs ds H3 x3 b3 hvs r => q _ (d :: ds) H3 (x2.trans x3) b3 (.cons (hv.upB ha x3) hvs) ⟨d, ds, rfl, p, r⟩
/-- a call of a def that takes from the bag -/
theorem eg_call {c : Nat} {pre : List PyData → Prop} {R : List PyData → PyData → Prop} {S : List PyData → Prop} {E : XK} {i : Nat} (ha : a ∈ b) (hb : σ[i]? = some (some (.ref a))) (hargs : EGA K b a n (m + c) t σ H S) (hp : ∀ ds, S ds → pre ds) (hr : ∀ ds d, S ds → R ds d → P d) :
    EG K b a n m (tCall (spG K c pre R) [] E (tCons (tVar i) t)) σ H P := fun H1 x1 kn bg Q q =>
  ⟨.ref a, hb, hargs H1 x1 kn bg _ fun vs ds H2 x2 b2 hvs s => ⟨b, a, m, vs, ds, by rw [List.append_nil], ha, x2.kn kn b2, b2, hvs, hp ds s, fun v d H3 x3 b3 hv r => q v d H3 (x2.trans x3) b3 hv (hr ds d s r)⟩⟩
theorem gs_ret (h : EG K b a n m te σ H P) : GS K b a n m (tRet te) σ H P := fun H1 x1 kn bg D q => h H1 x1 kn bg _ q
theorem gs_if {c : Bool} (hc : ∀ H1, ExB a H H1 → Kn b H1 → EvT tt σ H1 c) (h1 : c = true → GS K b a n m t1 σ H P) (h2 : c = false → GS K b a n m t2 σ H P) : GS K b a n m (tSeq (tIfS tt t1 tNext) t2) σ H P := fun H1 x1 kn bg D q =>
  hc H1 x1 kn H1 (Ex.refl H1) _ fun H2 x2 => by
    cases c with
    | true =>
      rw [if_pos rfl]
      exact h1 rfl H2 (x1.trans (exb x2)) (kn.up x2) (bg.ex x2) _ fun v d H3 x3 b3 hv p => q v d H3 ((exb x2).trans x3) b3 hv p
    | false =>
      rw [if_neg Bool.false_ne_true]
      exact h2 rfl H2 (x1.trans (exb x2)) (kn.up x2) (bg.ex x2) _ fun v d H3 x3 b3 hv p => q v d H3 ((exb x2).trans x3) b3 hv p
theorem gs_set {i : Nat} {P1 : PyData → Prop} (h : EG K b a n k te σ H P1) (kk : ∀ v d H', ExB a H H' → Dq K b H' v d → P1 d → GS K b a k m ts (σ.set i (some v)) H' P) : GS K b a n m (tSeq (tAsg te (gName i)) ts) σ H P := fun H1 x1 kn bg D q =>
  h H1 x1 kn bg _ fun v d H2 x2 b2 hv p => kk v d H2 (x1.trans x2) hv p H2 (ExB.refl a H2) (x2.kn kn b2) b2 D fun v' d' H3 x3 b3 hv' p' => q v' d' H3 (x2.trans x3) b3 hv' p'
/-- a conditional expression whose test is pure -/
theorem eg_if {c : Bool} (hc : ∀ H1, ExB a H H1 → Kn b H1 → EvT tt σ H1 c) (h1 : c = true → EG K b a n m ta σ H P) (h2 : c = false → EG K b a n m tb σ H P) : EG K b a n m (tIf tt ta tb) σ H P := fun H1 x1 kn bg Q q =>
  hc H1 x1 kn H1 (Ex.refl H1) _ fun H2 x2 => by
    cases c with
    | true =>
      rw [if_pos rfl]
      exact h1 rfl H2 (x1.trans (exb x2)) (kn.up x2) (bg.ex x2) _ fun v d H3 x3 b3 hv p => q v d H3 ((exb x2).trans x3) b3 hv p
    | false =>
      rw [if_neg Bool.false_ne_true]
      exact h2 rfl H2 (x1.trans (exb x2)) (kn.up x2) (bg.ex x2) _ fun v d H3 x3 b3 hv p => q v d H3 ((exb x2).trans x3) b3 hv p
/-- two operands, the operation pure on their data -/
theorem eg_op {r : R2} {P1 P2 : PyData → Prop} (ha : a ∈ b) (h1 : EG K b a n k ta σ H P1) (h2 : EG K b a k m tb σ H P2) (hr : ∀ d e H1 x y (Q : VK), P1 d → P2 e → ExB a H H1 → Kn b H1 → Dq K b H1 x d → Dq K b H1 y e → (∀ v z H2, Ex H1 H2 → Dq K b H2 v z → P z → Q v H2) → r x y H1 Q) : EG K b a n m (tOp r ta tb) σ H P := fun H1 x1 kn bg Q q =>
  h1 H1 x1 kn bg _ fun v d H2 x2 b2 hv p1 => h2 H2 (x1.trans x2) (x2.kn kn b2) b2 _ fun w e H3 x3 b3 hw p2 =>
    hr d e H3 v w Q p1 p2 ((x1.trans x2).trans x3) (x3.kn (x2.kn kn b2) b3) (hv.upB ha x3) hw fun u z H4 x4 hu p => q u z H4 ((x2.trans x3).trans (exb x4)) (b3.ex x4) hu p
/-- a new tuple of what is evaluated -/
theorem eg_tup {R : List PyData → Prop} (h : EGA K b a n m t σ H R) (hl : ∀ ds, R ds → ds.length ≤ sizeLine ∧ P (.tuple ds)) : EG K b a n m (tTupF t) σ H P := fun H1 x1 kn bg Q q =>
  h H1 x1 kn bg _ fun vs ds H2 x2 b2 hvs r => ⟨by rw [dps_len hvs]; exact (hl ds r).1, fun p o hp ho => by
    have e := hid_new (o := HO.frz o (.tup vs)) (H := H2) ((x2.kn kn b2).new hp)
    exact q _ (.tuple ds) _ (x2.trans (exb (Ex.new hp))) (b2.ex (Ex.new hp)) (.tup (.inl (.inr ⟨_, e⟩)) (.inl ⟨_, _, e, ho⟩) (hvs.up (Ex.new hp))) (hl ds r).2⟩
end
theorem GS.fin {K : PySem.W.Frag} {b : List Addr} {a : Addr} {n m : Nat} {σ : L2.St} {H : Hp} {ts : TS} {P : PyData → Prop} {D : Ends} (h : GS K b a n m ts σ H P) (kn : Kn b H) (bg : Bag a n H) (q : ∀ v d H', ExB a H H' → Bag a m H' → Dq K b H' v d → P d → D.rt v H') : ts D σ H := h H (ExB.refl a H) kn bg D q
/-! ### wide powers -/
def CPowW (i j : Int) : Prop := 0 ≤ j ∧ j ≤ 100 ∧ i.natAbs < 2 ^ 1000
theorem op_powW {X : Cx} : OpR X (binaryOp .Pow) (rI CPowW fun i j => .int (i ^ j.toNat)) := opI fun i j _ _ _ _ _ hc q => pow_int hc.1 (by
  have hlog : i.natAbs.log2 < 1000 := by
    by_cases h0 : i.natAbs = 0
    · rw [h0]; decide
    · exact (Nat.log2_lt h0).mpr hc.2.2
  have h1 : (Builtin.Int.intBits i : Nat) ≤ 1001 := by
    unfold Builtin.Int.intBits
    split <;> omega
  have h2 := hc.2.1
  have h3 := hc.1
  have h4 : ((Builtin.Int.intBits i : Nat) : Int) ≤ 1001 := by omega
  have h5 : ((Builtin.Int.intBits i : Nat) : Int) * j ≤ 1001 * 100 := Int.mul_le_mul h4 h2 h3 (by decide)
  exact Int.le_trans h5 (by decide)) q
end Wr

set_option Elab.async false
set_option linter.all false
set_option maxRecDepth 100000
set_option maxHeartbeats 4000000
namespace Wr
open PySem PySem.Spec PyProof.Rows L2 Evl
abbrev s_take : Stmt := topS 43
abbrev NT : List Str := ["_law_bag_here", "_law_many", "_law_digit", "_law_primes", "_law_step", "_law_base", "_law_mixed"]
theorem sc_take : FnScope NT ["_law_bag_here", "_law_many"] (defScope s_take) := ⟨rfl, rfl, rfl, by decide +kernel, rfl, by decide +kernel, by decide +kernel⟩
def primesD : List PyData := [.int 2147483629, .int 2147483587, .int 2147483579, .int 2147483563, .int 2147483549, .int 2147483543, .int 2147483497]
theorem primes_at {i : Int} (h0 : 0 ≤ i) (h1 : i < 7) : ∃ p, atI primesD i = some (.int p) ∧ 0 < p ∧ p < 2147483648 := by
  rcases (show i = 0 ∨ i = 1 ∨ i = 2 ∨ i = 3 ∨ i = 4 ∨ i = 5 ∨ i = 6 by omega) with rfl | rfl | rfl | rfl | rfl | rfl | rfl
  · exact ⟨_, rfl, by decide, by decide⟩
  · exact ⟨_, rfl, by decide, by decide⟩
  · exact ⟨_, rfl, by decide, by decide⟩
  · exact ⟨_, rfl, by decide, by decide⟩
  · exact ⟨_, rfl, by decide, by decide⟩
  · exact ⟨_, rfl, by decide, by decide⟩
  · exact ⟨_, rfl, by decide, by decide⟩
def TakePre (ds : List PyData) : Prop := ∃ m, ds = [.int m] ∧ 0 < m ∧ m < 1073741824
def TakeR (ds : List PyData) (d : PyData) : Prop := ∃ m r, ds = [.int m] ∧ d = .int r ∧ 0 ≤ r ∧ r < m
abbrev spTake (K : PySem.W.Frag) : Sp := spG K 1 TakePre TakeR
theorem spG_len {K : PySem.W.Frag} {n k : Nat} {pre : List PyData → Prop} {R : List PyData → PyData → Prop} (hl : ∀ ds, pre ds → ds.length = k) {vs : List V} {H : Hp} {Q : VK} {E : XK} (h : spG K n pre R vs H Q E) : vs.length = k + 1 := by
  obtain ⟨b, a, k', ws, ds, rfl, _, _, _, hd, hp, _⟩ := h
  rw [List.length_cons, dps_len hd, hl ds hp]
section
variable {K : PySem.W.Frag} {b : List Addr} {σ : L2.St} {H H' : Hp} {ta tb te : TE}
theorem gnext {D : Ends} {σ : L2.St} {H : Hp} (h : D.nx σ H) : tNext D σ H := h
theorem g_set {D : Ends} {i : Nat} {ts : TS} {d : PyData} (h : ED K b te σ H d) (k : ∀ v H', Ex H H' → Dq K b H' v d → ts D (σ.set i (some v)) H') : tSeq (tAsg te (gName i)) ts D σ H := h H (Ex.refl H) _ fun v H' x hv => k v H' x hv
/-- an item of the bag -/
theorem ed_bag {a : Addr} {xs : List V} {i j : Nat} {k : Int} (hs : σ[j]? = some (some (.ref a))) (h : H a = some (.lst xs)) (hi : xs[i]? = some (.int k)) : ED K b (tOp (rIxL K) (tVar j) (tC (.int (i : Nat)))) σ H (.int k) := fun H1 x1 Q q =>
  ⟨.ref a, hs, a, xs, (i : Nat), .int k, rfl, rfl, .inl (.inl (x1 _ _ h)), atI_nat hi, q _ H1 (Ex.refl H1) (.int _)⟩
theorem ed_mul {i j : Int} (ha : ED K b ta σ H (.int i)) (hb : ED K b tb σ H (.int j)) (hc : CMul i j) : ED K b (tOp (rI CMul fun i j => .int (i * j)) ta tb) σ H (.int (i * j)) := ed_I ha hb hc fun _ => .int _
theorem ed_mod {i j : Int} (ha : ED K b ta σ H (.int i)) (hb : ED K b tb σ H (.int j)) (hc : 0 < j) : ED K b (tOp (rI (fun _ j => 0 < j) fun i j => .int (i % j)) ta tb) σ H (.int (i % j)) := ed_I ha hb hc fun _ => .int _
theorem ed_fdiv {i j : Int} (ha : ED K b ta σ H (.int i)) (hb : ED K b tb σ H (.int j)) (hc : CDiv i j) : ED K b (tOp (rI CDiv fun i j => .int (i / j)) ta tb) σ H (.int (i / j)) := ed_I ha hb hc fun _ => .int _
theorem ed_powW {i j : Int} (ha : ED K b ta σ H (.int i)) (hb : ED K b tb σ H (.int j)) (hc : CPowW i j) : ED K b (tOp (rI CPowW fun i j => .int (i ^ j.toNat)) ta tb) σ H (.int (i ^ j.toNat)) := ed_I ha hb hc fun _ => .int _
end
section
variable {P : Program} {w : World} {K : PySem.W.Frag} {mg : Str → Option Value} {base : Heap} {f g g2 : Addr} {fd gd gd2 : FuncData}
theorem ok_take (D : Def K mg "_law_take" s_take ["_law_bag_here", "_law_many"] f fd) : FnOk P w K mg base CX0 1 f fd ["_law_bag_here", "_law_many"] (spTake K) := by
  refine D.F.ok sc_take (fun vs H Q E h => spG_len (fun ds ⟨m, e, _⟩ => by rw [e]; rfl) h) (fun cdv A outer s H vs Q E hr h => ?_)
  obtain ⟨b, a, k, ws, ds, rfl, hab, kn, ⟨gg, x, c, hb, g0, x0, x1, c0, c1⟩, hd, ⟨m, rfl, m0, m1⟩, q⟩ := h
  obtain ⟨v, d, rfl, ed, hv⟩ := one_of hd rfl
  cases ed
  have ev := dq_int hv
  subst ev
  refine ⟨_, pss_cons (ps_if (pt_cmpR op_gt (pe_ix ix_list (pv 0) pe_int (fun _ _ => rfl)) pe_int (nomark _))
      (pss_cons (ps_set (i := 2) sc_take.nd rfl (Or.inl rfl) (pe_op op_mod (pe_ix ix_list (pv 0) pe_int (fun _ _ => rfl)) (pv 1)))
      (pss_cons (ps_asg (pe_op op_fdiv (pe_ix ix_list (pv 0) pe_int (fun _ _ => rfl)) (pv 1)) (pg_sub (pv 0) pe_int set_list))
      (pss_one (ps_ret (pv 2))))) pss_nil)
    (pss_cons (ps_set (i := 3) sc_take.nd rfl (Or.inl rfl) (pe_tupF (pa_cons pe_int (pa_cons pe_int (pa_cons pe_int (pa_cons pe_int (pa_cons pe_int (pa_cons pe_int (pa_cons pe_int pa_nil)))))))))
    (pss_cons (ps_asg (pe_op op_add (pe_ix ix_list (pv 0) pe_int (fun _ _ => rfl)) pe_int) (pg_sub (pv 0) pe_int set_list))
    (pss_cons (ps_set (i := 4) sc_take.nd rfl (Or.inl rfl) (pe_ix ix_list (pv 0) pe_int (fun _ _ => rfl)))
    (pss_cons (ps_set (i := 5) sc_take.nd rfl (Or.inl rfl) (pe_op op_add (pe_op op_add (pe_op op_mul (pe_ix ix_list (pv 0) pe_int (fun _ _ => rfl)) (pe_op op_add (pe_op op_mul pe_int (pv 4)) pe_int)) (pe_op op_mul (pe_op op_mul pe_int (pv 4)) (pv 4))) pe_int))
    (pss_cons (ps_set (i := 6) sc_take.nd rfl (Or.inl rfl) (pe_op op_mod (pe_op op_powW (pv 5) pe_int) (pe_ix ix_tup (pv 3) (pe_op op_mod (pv 4) pe_int) (fun _ _ => rfl))))
    (pss_one (ps_ret (pe_op op_mod (pe_op op_fdiv (pe_op op_mod (pe_op op_mul (pv 6) (pe_op op_add (pe_op op_fdiv (pv 6) pe_int) (pv 4))) (pe_ix ix_tup (pv 3) (pe_op op_mod (pe_op op_add (pv 4) pe_int) pe_int) (fun _ _ => rfl))) pe_int) (pv 1))))))))), ?_⟩
  refine et_t (K := K) (b := b) (ed_gt (ed_bag (i := 0) rfl hb rfl) ed_int) H (Ex.refl H) _ fun H1 y1 => ?_
  by_cases hg : (0 : Int) < gg
  · rw [decide_eq_true hg, if_pos rfl]
    refine (ed_mod (K := K) (b := b) (ed_bag (i := 0) rfl (y1 _ _ hb) rfl) (ed_var (d := .int m) rfl (.int m)) m0) H1 (Ex.refl H1) _ fun v2 H2 y2 hv2 => ?_
    have e2 := dq_int hv2
    subst e2
    refine (ed_fdiv (K := K) (b := b) (ed_bag (i := 0) rfl (y2 _ _ (y1 _ _ hb)) rfl) (ed_var (d := .int m) rfl (.int m)) ⟨m0, m1⟩) H2 (Ex.refl H2) _ fun v3 H3 y3 hv3 => ?_
    have e3 := dq_int hv3
    subst e3
    have hb3 := y3 _ _ (y2 _ _ (y1 _ _ hb))
    refine ⟨.ref a, rfl, a, _, 0, 0, rfl, rfl, hb3, rfl, _, rfl, ?_⟩
    refine q _ (.int (gg % m)) _ (fun c o n h => ?_) ⟨gg / m, x, c, upd_same, Int.ediv_nonneg g0 (by omega), x0, x1, c0, by omega⟩ (.int _) ⟨m, gg % m, rfl, rfl, Int.emod_nonneg _ (by omega), Int.emod_lt_of_pos _ m0⟩
    rw [upd_ne n]
    exact y3 _ _ (y2 _ _ (y1 _ _ h))
  · rw [decide_eq_false hg, if_neg Bool.false_ne_true]
    have kn1 := kn.up y1
    refine gnext ?_
    refine g_set (ed_tup (K := K) (b := b) (ds := primesD) kn1 (ea_cons ed_int (ea_cons ed_int (ea_cons ed_int (ea_cons ed_int (ea_cons ed_int (ea_cons ed_int (ea_cons ed_int ea_nil))))))) (by decide)) fun vp H2 y2 hp => ?_
    have hb2 := y2 _ _ (y1 _ _ hb)
    refine (ed_add (K := K) (b := b) (ed_bag (i := 2) rfl hb2 rfl) ed_int) H2 (Ex.refl H2) _ fun v3 H3 y3 hv3 => ?_
    have e3 := dq_int hv3
    subst e3
    have hb3 := y3 _ _ hb2
    refine ⟨.ref a, rfl, a, _, 2, 2, rfl, rfl, hb3, rfl, ?_⟩
    have hb4 : (upd H3 a (.lst ([V.int gg, .int x, .int c].set 2 (.int (c + 1))))) a = some (.lst [.int gg, .int x, .int (c + 1)]) := upd_same
    have hx4 : ExB a H (upd H3 a (.lst ([V.int gg, .int x, .int c].set 2 (.int (c + 1))))) := fun z o n h => by
      rw [upd_ne n]
      exact y3 _ _ (y2 _ _ (y1 _ _ h))
    have hp4 : Dq K b (upd H3 a (.lst ([V.int gg, .int x, .int c].set 2 (.int (c + 1))))) vp (.tuple primesD) := Dq.upB hab hp fun z o n h => by
      rw [upd_ne n]
      exact y3 _ _ h
    generalize upd H3 a (.lst ([V.int gg, .int x, .int c].set 2 (.int (c + 1)))) = H4 at hb4 hx4 hp4
    refine (ed_bag (K := K) (b := b) (i := 2) rfl hb4 rfl) H4 (Ex.refl H4) _ fun v5 H5 y5 hv5 => ?_
    have e5 := dq_int hv5
    subst e5
    have s0 : 0 ≤ c + 1 := by omega
    have s1 : c + 1 ≤ 1000000 := by omega
    generalize hst : c + 1 = st at *
    refine (ed_add (K := K) (b := b) (ed_add (ed_mul (ed_bag (i := 1) rfl (y5 _ _ hb4) rfl) (ed_add (ed_mul ed_int (ed_var (d := .int st) rfl (.int st)) (.inl (by decide))) ed_int) (.inl ⟨by omega, by omega⟩))
      (ed_mul (ed_mul ed_int (ed_var (d := .int st) rfl (.int st)) (.inl (by decide))) (ed_var (d := .int st) rfl (.int st)) (.inr ⟨by omega, by omega⟩))) ed_int) H5 (Ex.refl H5) _ fun v6 H6 y6 hv6 => ?_
    have e6 := dq_int hv6
    subst e6
    have ba : x * (2 * st + 1) + 7919 * st * st + 29 < 2 ^ 200 ∧ 0 ≤ x * (2 * st + 1) + 7919 * st * st + 29 := by
      have a1 : x * (2 * st + 1) ≤ 2000000000000000000 * 2000001 := Int.mul_le_mul (by omega) (by omega) (by omega) (by decide)
      have a2 : 0 ≤ x * (2 * st + 1) := Int.mul_nonneg x0 (by omega)
      have a3 : 7919 * st * st ≤ 7919000000 * 1000000 := Int.mul_le_mul (by omega) s1 s0 (by decide)
      have a4 : 0 ≤ 7919 * st * st := Int.mul_nonneg (by omega) s0
      constructor
      · have : (2000000000000000000 * 2000001 + 7919000000 * 1000000 + 29 : Int) < 2 ^ 200 := by decide
        omega
      · omega
    generalize x * (2 * st + 1) + 7919 * st * st + 29 = bs at ba
    obtain ⟨p1, hp1, p10, p11⟩ := primes_at (Int.emod_nonneg st (by decide : (7 : Int) ≠ 0)) (Int.emod_lt_of_pos st (by decide))
    obtain ⟨p2, hp2, p20, p21⟩ := primes_at (Int.emod_nonneg (st + 3) (by decide : (7 : Int) ≠ 0)) (Int.emod_lt_of_pos (st + 3) (by decide))
    have hpw : CPowW bs 3 := ⟨by decide, by decide, by
      have : bs.natAbs < 2 ^ 200 := by
        have h1 := ba.1
        have h2 : ((bs.natAbs : Nat) : Int) < ((2 ^ 200 : Nat) : Int) := by
          have e : ((2 ^ 200 : Nat) : Int) = 2 ^ 200 := by norm_cast
          rw [e]
          omega
        exact Int.ofNat_lt.mp h2
      exact Nat.lt_trans this (by decide)⟩
    refine (ed_mod (K := K) (b := b) (ed_powW (ed_var (d := .int bs) rfl (.int bs)) ed_int hpw) (ed_ixT (ed_var rfl ((hp4.up y5).up y6)) (ed_mod (ed_var (d := .int st) rfl (.int st)) ed_int (by decide)) hp1) p10) H6 (Ex.refl H6) _ fun v7 H7 y7 hv7 => ?_
    have e7 := dq_int hv7
    subst e7
    have mx0 := Int.emod_nonneg (bs ^ (3 : Int).toNat) (show p1 ≠ 0 by omega)
    have mx1 := Int.emod_lt_of_pos (bs ^ (3 : Int).toNat) p10
    generalize bs ^ (3 : Int).toNat % p1 = mx at mx0 mx1
    refine (ed_mod (K := K) (b := b) (ed_fdiv (ed_mod (ed_mul (ed_var (d := .int mx) rfl (.int mx)) (ed_add (ed_fdiv (ed_var (d := .int mx) rfl (.int mx)) ed_int ⟨by decide, by decide⟩) (ed_var (d := .int st) rfl (.int st))) (.inl ⟨by omega, by omega⟩))
      (ed_ixT (ed_var rfl (((hp4.up y5).up y6).up y7)) (ed_mod (ed_add (ed_var (d := .int st) rfl (.int st)) ed_int) ed_int (by decide)) hp2) p20) ed_int ⟨by decide, by decide⟩) (ed_var (d := .int m) rfl (.int m)) m0) H7 (Ex.refl H7) _ fun v8 H8 y8 hv8 => ?_
    refine q _ _ _ (hx4.trans (exb (((y5.trans y6).trans y7).trans y8))) ⟨gg, x, st, (((y5.trans y6).trans y7).trans y8) _ _ hb4, g0, x0, x1, s0, by omega⟩ hv8 ⟨m, _, rfl, rfl, Int.emod_nonneg _ (by omega), Int.emod_lt_of_pos _ m0⟩
end
end Wr

set_option Elab.async false
set_option linter.all false
set_option maxRecDepth 100000
set_option maxHeartbeats 4000000
namespace Wr
open PySem PySem.Spec PyProof.Rows L2 Evl
abbrev s_worth2 : Stmt := topS 44
abbrev s_names2 : Stmt := topS 45
theorem sc_worth2 : FnScope ["_law_bag_here", "_law_way"] ["_law_bag_here"] (defScope s_worth2) := ⟨rfl, rfl, rfl, by decide +kernel, rfl, by decide +kernel, by decide +kernel⟩
abbrev NN2 : List Str := ["_law_bag_here", "_law_many", "_law_letters", "_law_first", "_law_long", "_law_k"]
theorem sc_names2 : FnScope NN2 ["_law_bag_here", "_law_many"] (defScope s_names2) := ⟨rfl, rfl, rfl, by decide +kernel, rfl, by decide +kernel, by decide +kernel⟩
def IntB (m : Int) (d : PyData) : Prop := ∃ r, d = .int r ∧ 0 ≤ r ∧ r < m
section
variable {K : PySem.W.Frag} {b : List Addr} {a : Addr} {n m k : Nat} {σ : L2.St} {H H' : Hp} {ta tb te : TE} {t : TA} {tt : TT} {ts t1 t2 : TS} {P P' : PyData → Prop} {d : PyData}
theorem eg_takeE {i : Nat} {u : Int} {P1 : PyData → Prop} {E : XK} (ha : a ∈ b) (hb : σ[i]? = some (some (.ref a))) (h : EG K b a n (m + 1) te σ H P1) (hp : ∀ d, P1 d → ∃ j, d = .int j ∧ 0 < j ∧ j < 1073741824 ∧ j ≤ u) : EG K b a n m (tCall (spTake K) [] E (tCons (tVar i) (tCons te tNil))) σ H (IntB u) :=
  eg_call ha hb (ega_cons ha h ega_nil) (fun ds ⟨d, r, e, p, er⟩ => by
    obtain ⟨j, rfl, h1, h2, _⟩ := hp d p
    subst er
    exact ⟨j, e, h1, h2⟩) fun ds d ⟨d', r, e, p, er⟩ ⟨j, x, e1, e2, h1, h2⟩ => by
    obtain ⟨j', rfl, _, _, h3⟩ := hp d' p
    subst er
    rw [e] at e1
    have ej : j' = j := by injection e1 with e1 _; injection e1
    exact ⟨x, e2, h1, by omega⟩
theorem eg_take {i : Nat} {u : Int} {E : XK} (ha : a ∈ b) (hb : σ[i]? = some (some (.ref a))) (h0 : 0 < u) (h1 : u < 1073741824) : EG K b a (n + 1) n (tCall (spTake K) [] E (tCons (tVar i) (tCons (tC (.int u)) tNil))) σ H (IntB u) :=
  eg_takeE (P1 := fun d => d = .int u) ha hb (eg_pure (fun _ _ _ => ed_int) rfl) fun d e => ⟨u, e, h0, h1, Int.le_refl u⟩
theorem eg_ixL {P1 P2 : PyData → Prop} (ha : a ∈ b) (h1 : EG K b a n k ta σ H P1) (h2 : EG K b a k m tb σ H P2) (hi : ∀ d e, P1 d → P2 e → ∃ ds i z, d = .list ds ∧ e = .int i ∧ atI ds i = some z ∧ P z) : EG K b a n m (tOp (rIxL K) ta tb) σ H P :=
  eg_op ha h1 h2 fun d e H1 x y Q p1 p2 _ _ hx hy q => by
    obtain ⟨ds, i, z, rfl, rfl, hz, p⟩ := hi d e p1 p2
    cases hx with
    | lst g1 g2 =>
      obtain ⟨v, q1, q2⟩ := dps_atI g2 hz
      exact ⟨_, _, i, v, rfl, dq_int hy, ex_l hid_le g1, q1, q v z H1 (Ex.refl H1) q2 p⟩
theorem eg_I0 {g : Int → Int → Int} {P1 P2 : PyData → Prop} (ha : a ∈ b) (h1 : EG K b a n k ta σ H P1) (h2 : EG K b a k m tb σ H P2) (hi : ∀ d e, P1 d → P2 e → ∃ i j, d = .int i ∧ e = .int j ∧ P (.int (g i j))) : EG K b a n m (tOp (rI0 fun i j => .int (g i j)) ta tb) σ H P :=
  eg_op ha h1 h2 fun d e H1 x y Q p1 p2 _ _ hx hy q => by
    obtain ⟨i, j, rfl, rfl, p⟩ := hi d e p1 p2
    exact ⟨i, j, dq_int hx, dq_int hy, q _ _ H1 (Ex.refl H1) (.int _) p⟩
theorem intB_at {ds : List PyData} {u : Int} {d : PyData} (h : IntB u d) (hu : u ≤ ds.length) : ∃ i z, d = .int i ∧ atI ds i = some z ∧ z ∈ ds := by
  obtain ⟨r, rfl, h0, h1⟩ := h
  have hr : r.toNat < ds.length := by omega
  have e : ((r.toNat : Nat) : Int) = r := Int.toNat_of_nonneg h0
  have q := atI_nat (xs := ds) (j := r.toNat) (List.getElem?_eq_getElem hr)
  rw [e] at q
  exact ⟨r, ds[r.toNat], rfl, q, List.getElem_mem hr⟩
end
section
variable {P : Program} {w : World} {K : PySem.W.Frag} {mg : Str → Option Value} {base : Heap} {f g g2 : Addr} {fd gd gd2 : FuncData}
theorem ok_worth2 (D : Def K mg "_law_worth" s_worth2 ["_law_bag_here"] f fd) (D1 : Def K mg "_law_take" s_take ["_law_bag_here", "_law_many"] g gd) :
    FnOk P w K mg base CX0 2 f fd ["_law_bag_here"] (spG K 2 (· = []) fun _ d => worthD d = true) := by
  refine D.F.ok sc_worth2 (fun vs H Q E h => spG_len (fun ds e => by rw [e]; rfl) h) (fun cdv A outer s H vs Q E hr h => ?_)
  obtain ⟨b, a, k, ws, ds, rfl, hab, kn, bg, hd, rfl, q⟩ := h
  cases hd
  have G1 := ok_take (P := P) (w := w) (base := base) D1
  refine ⟨_, pss_cons (ps_set (i := 1) sc_worth2.nd rfl (Or.inl rfl) (pe_cd D1 G1 hr (pa_cons (pv 0) (pa_cons pe_int pa_nil))))
    (pss_cons (ps_if (pt_cmpR op_lt (pv 1) pe_int (nomark _)) (pss_one (ps_ret (pe_op op_sub (pe_cd D1 G1 hr (pa_cons (pv 0) (pa_cons pe_int pa_nil))) pe_int))) pss_nil)
    (pss_cons (ps_if (pt_cmpR (op_eqD (hu64 hr)) (pv 1) pe_int (nomark _)) (pss_one (ps_ret (pe_ix ix_list (pe_lst (pa_cons (pe_op op_pow pe_int pe_int) (pa_cons (pe_un un_neg (pe_op op_pow pe_int pe_int)) (pa_cons (pe_op op_pow pe_int pe_int) (pa_cons (pe_un un_neg (pe_op op_pow pe_int pe_int)) pa_nil)))))
      (pe_cd D1 G1 hr (pa_cons (pv 0) (pa_cons pe_int pa_nil))) (fun _ _ => rfl)))) pss_nil)
    (pss_one (ps_ret (pe_op op_sub (pe_cd D1 G1 hr (pa_cons (pv 0) (pa_cons pe_int pa_nil))) pe_int))))), ?_⟩
  have pw : ∀ {σ'} {H'} (j : Int) (c : CPow 10 j), ED K b (tOp (rI CPow fun i j => .int (i ^ j.toNat)) (tC (.int 10)) (tC (.int j))) σ' H' (.int (10 ^ j.toNat)) := fun {_ _} j c => ed_I ed_int ed_int c fun _ => .int _
  refine GS.fin (m := k) (P := fun d => worthD d = true) (gs_set (k := k + 1) (eg_take hab rfl (by decide) (by decide)) fun v d H' x hv ⟨r, er, r0, r1⟩ => ?_) kn bg fun v d H' x bg' hv p => q v d H' x bg' hv p
  subst er
  refine gs_if (c := decide (r < 5)) (fun H1 x1 _ => et_t (ed_lt (ed_var rfl (hv.upB hab x1)) ed_int)) (fun _ => gs_ret (eg_I0 hab (eg_take hab rfl (by decide) (by decide)) (eg_pure (P := (· = .int 3)) (fun _ _ _ => ed_int) rfl) ?_)) fun _ =>
    gs_if (c := PyData.eqv (.int r) (.int 5)) (fun H1 x1 _ => et_t (ed_eq (ed_var rfl (hv.upB hab x1)) ed_int (sh_int _) (sh_int _))) (fun _ => gs_ret (eg_ixL hab (eg_pure (P := (· = .list [.int 1000000000000, .int (-1000000000000), .int 1000000, .int (-1000000)])) (fun H1 x1 kn1 => ?_) rfl) (eg_take hab rfl (by decide) (by decide)) ?_)) fun _ =>
    gs_ret (eg_I0 hab (eg_take hab rfl (by decide) (by decide)) (eg_pure (P := (· = .int 1000000)) (fun _ _ _ => ed_int) rfl) ?_)
  · rintro d e ⟨i, rfl, i0, i1⟩ rfl
    refine ⟨i, 3, rfl, rfl, ?_⟩
    show (decide (_ ≤ i - 3) && decide (i - 3 ≤ _)) = true
    rw [decide_eq_true (by omega), decide_eq_true (by omega)]
    rfl
  · exact ed_lst kn1 (ea_cons (pw 12 ⟨by decide, by decide, by decide⟩) (ea_cons (ed_neg (pw 12 ⟨by decide, by decide, by decide⟩)) (ea_cons (pw 6 ⟨by decide, by decide, by decide⟩) (ea_cons (ed_neg (pw 6 ⟨by decide, by decide, by decide⟩)) ea_nil)))) (by decide)
  · rintro d e rfl hi
    obtain ⟨i, z, rfl, hz, hm⟩ := intB_at (ds := [.int 1000000000000, .int (-1000000000000), .int 1000000, .int (-1000000)]) hi (by decide)
    refine ⟨_, i, z, rfl, rfl, hz, ?_⟩
    simp only [List.mem_cons, List.not_mem_nil, or_false] at hm
    rcases hm with rfl | rfl | rfl | rfl <;> rfl
  · rintro d e ⟨i, rfl, i0, i1⟩ rfl
    refine ⟨i, 1000000, rfl, rfl, ?_⟩
    show (decide (_ ≤ i - 1000000) && decide (i - 1000000 ≤ _)) = true
    rw [decide_eq_true (by omega), decide_eq_true (by omega)]
    rfl
end
end Wr

set_option Elab.async false
set_option linter.all false
set_option maxRecDepth 100000
set_option maxHeartbeats 4000000
namespace Wr
open PySem PySem.Spec PyProof.Rows L2 Evl
/-! ### text * number -/
def repS (x : Str) (n : Int) : Str := ⟨(List.replicate n.toNat x.cps.toList).flatten.toArray⟩
def rMulS : R2 := fun x y H Q => ∃ z n, x = .str z ∧ y = .int n ∧ 0 ≤ n ∧ n ≤ 1000 ∧ z.length ≤ 1000 ∧ Q (.str (repS z n)) H
theorem rep_fold : ∀ (n : Nat) (x : Array Nat) (acc : Array Nat), (List.replicate n x).foldl (· ++ ·) acc = acc ++ (List.replicate n x.toList).flatten.toArray
  | 0, x, acc => by simp
  | n + 1, x, acc => by
    rw [List.replicate_succ, List.replicate_succ, List.foldl_cons, rep_fold n x]
    obtain ⟨l⟩ := x
    simp
theorem rep_len (z : Str) (n : Int) : (repS z n).length = n.toNat * z.length := by
  show (List.replicate n.toNat z.cps.toList).flatten.toArray.size = n.toNat * z.cps.size
  simp
theorem op_mulS {X : Cx} : OpR X (binaryOp .Mult) rMulS := by
  intro pins s σ H x y v u Q I rx ry ⟨z, n, e1, e2, h0, h1, hz, q⟩
  subst e1 e2
  obtain ⟨t, rfl⟩ := rx
  obtain ⟨t2, rfl⟩ := ry
  have hs : sizeLine = 16777216 := sizeLine_eq
  refine PySem.P.mul_str (by rw [decide_eq_false (by omega), decide_eq_false (by omega)]; rfl) (fun h _ => ?_) (fun _ _ => ?_) ?_
  · have : (z.length : Int) ≤ 1000 := by omega
    have h2 : (9223372036854775 : Int) ≤ (2 ^ 63 - 1) / n := by
      rw [Int.le_ediv_iff_mul_le (by omega)]
      have : 9223372036854775 * n ≤ 9223372036854775 * 1000 := Int.mul_le_mul_of_nonneg_left h1 (by decide)
      omega
    omega
  · have : z.length * n.toNat ≤ 1000 * 1000 := Nat.mul_le_mul hz (by omega)
    unfold Builtin.Str.tooLong
    exact decide_eq_false (by omega)
  · by_cases hn : n < 1
    · rw [if_pos hn]
      have e0 : n = 0 := by omega
      subst e0
      exact ⟨by decide, .str (repS z 0), H, I.tok _, ⟨_, rfl⟩, q⟩
    · rw [if_neg hn]
      by_cases hc : (n == 1 || z.length == 0) = true
      · rw [if_pos hc]
        have e : repS z n = z := by
          rcases (show n = 1 ∨ z.length = 0 by simpa using hc) with rfl | hl
          · show (⟨(List.replicate 1 z.cps.toList).flatten.toArray⟩ : Str) = z
            simp
          · have h2 : z.cps.toList = [] := by
              have : z.cps.size = 0 := hl
              simpa using this
            unfold repS
            rw [h2]
            have h3 : (List.replicate n.toNat ([] : List Nat)).flatten = [] := by simp
            rw [h3]
            obtain ⟨c⟩ := z
            simp at h2
            subst h2
            rfl
        rw [e] at q
        exact ⟨.str z, H, I, ⟨_, rfl⟩, q⟩
      · rw [if_neg hc]
        have e : (⟨(List.replicate n.toNat z.cps).foldl (· ++ ·) #[]⟩ : Str) = repS z n := by
          unfold repS
          rw [rep_fold]
          simp
        rw [e]
        refine ⟨?_, .str (repS z n), H, I.tok _, ⟨_, rfl⟩, q⟩
        rw [rep_len]
        have : n.toNat * z.length ≤ 1000 * 1000 := Nat.mul_le_mul (by omega) hz
        omega
section
variable {K : PySem.W.Frag} {b : List Addr} {σ : L2.St} {H H' : Hp} {ta tb te : TE}
theorem ed_mulS {z : Str} {n : Int} (ha : ED K b ta σ H (.str z)) (hb : ED K b tb σ H (.int n)) (h0 : 0 ≤ n) (h1 : n ≤ 1000) (hz : z.length ≤ 1000) : ED K b (tOp rMulS ta tb) σ H (.str (repS z n)) :=
  ed_op ha hb fun H1 x y Q _ hx hy q => ⟨z, n, dq_str hx, dq_int hy, h0, h1, hz, q _ H1 (Ex.refl H1) (.str _)⟩
def rAddT : R2 := fun x y H Q => ∃ i j, x = .str i ∧ y = .str j ∧ i.length + j.length ≤ sizeLine ∧ Q (.str (i ++ j)) H
theorem op_addT {X : Cx} : OpR X (binaryOp .Add) rAddT := op_add_str
theorem ed_addT {z y : Str} (ha : ED K b ta σ H (.str z)) (hb : ED K b tb σ H (.str y)) (hl : z.length + y.length ≤ sizeLine) : ED K b (tOp rAddT ta tb) σ H (.str (z ++ y)) :=
  ed_op ha hb fun H1 x y' Q _ hx hy q => ⟨z, y, dq_str hx, dq_str hy, hl, q _ H1 (Ex.refl H1) (.str _)⟩
theorem ed_ixS {z : Str} {i : Int} {c : Nat} (ha : ED K b ta σ H (.str z)) (hb : ED K b tb σ H (.int i)) (hl : z.length ≤ sizeLine) (hi : atI z.cps.toList i = some c) : ED K b (tOp rIxS ta tb) σ H (.str ⟨#[c]⟩) :=
  ed_op ha hb fun H1 x y Q _ hx hy q => ⟨z, i, c, dq_str hx, dq_int hy, hl, hi, q _ H1 (Ex.refl H1) (.str _)⟩
theorem ed_lcR {k : Nat} {n : Int} {f : Nat → PyData} (kn : Kn b H) (ha : ED K b ta σ H (.int n)) (h0 : 0 ≤ n) (h1 : n ≤ 1000)
    (he : ∀ (i : Nat) (H3 : Hp), (i : Int) < n → Ex H H3 → ED K b te ((wipe σ [k]).set k (some (.int (i : Nat)))) H3 (f i)) (hf : ∀ i, flatP (f i) = true) : ED K b (tLc (iRng1 (tCons ta tNil)) (gName k) tYes te [k]) σ H (.list ((List.range n.toNat).map f)) := fun H1 x1 Q q =>
  ha H1 x1 _ fun x H2 x2 hx => by
    have e := dq_int hx
    subst e
    have wk : Walk (Itr 0 n.toNat) n.toNat (fun _ => True) (YAt ((List.range n.toNat).map fun i => V.int ((i : Nat) : Int))) := walk_range.mono (fun _ _ => trivial) fun i H x H' hi _ ⟨e, h⟩ => ⟨e, by
      rw [List.getElem?_map, List.getElem?_range hi, h]
      show some (V.int ((i : Nat) : Int)) = some (V.int (0 + (i : Int)))
      rw [Int.zero_add]⟩
    have hsl : sizeLine = 16777216 := sizeLine_eq
    refine ⟨n, rfl, by omega, by omega, lc_flat (K := K) (g := f) (p := fun _ => true) wk (by rw [List.length_map, List.length_range]) (by omega) (kn.up (x1.trans x2)) (fun _ _ => trivial) (fun _ _ _ _ _ => et_yes) ?_ (fun i _ _ => hf i) ?_⟩
    · intro i x H3 hx _ x3
      have hi : i < n.toNat := by
        have := (List.getElem?_eq_some_iff.mp hx).1
        rw [List.length_map, List.length_range] at this
        exact this
      rw [List.getElem?_map, List.getElem?_range hi] at hx
      have ex := (Option.some.inj hx).symm
      subst ex
      exact he i H3 (by omega) ((x1.trans x2).trans x3)
    · intro v H3 x3 hv
      refine q v H3 (x2.trans x3) ?_
      rw [filter_yes] at hv
      exact hv
end
/-! ### the drawn names -/
theorem abc_at {i : Int} (h0 : 0 ≤ i) (h1 : i < 26) : atI abc.cps.toList i = some (97 + i.toNat) := by
  have e : abc.cps.toList = (List.range 26).map (· + 97) := by decide +kernel
  have q := atI_nat (xs := abc.cps.toList) (j := i.toNat) (v := 97 + i.toNat) (by
    rw [e, List.getElem?_map, List.getElem?_range (by omega)]
    show some (i.toNat + 97) = some (97 + i.toNat)
    rw [Nat.add_comm])
  rw [Int.toNat_of_nonneg h0] at q
  exact q
def nmS (first long : Int) (k : Nat) : Str := (⟨#[97 + ((first + (k : Int)) % 26).toNat]⟩ : Str) ++ repS ⟨#[97 + first.toNat]⟩ long
theorem rep_one (c : Nat) (n : Int) : (repS ⟨#[c]⟩ n).cps.toList = List.replicate n.toNat c := by
  unfold repS
  have : ∀ k : Nat, (List.replicate k [c]).flatten = List.replicate k c := by
    intro k
    induction k with
    | zero => rfl
    | succ k ih =>
      rw [List.replicate_succ, List.flatten_cons, ih, List.replicate_succ]
      rfl
  show ((List.replicate n.toNat [c]).flatten.toArray).toList = _
  rw [this]
theorem nm_list (first long : Int) (k : Nat) : (nmS first long k).cps.toList = (97 + ((first + (k : Int)) % 26).toNat) :: List.replicate long.toNat (97 + first.toNat) := by
  show ((#[97 + ((first + (k : Int)) % 26).toNat] : Array Nat) ++ (repS ⟨#[97 + first.toNat]⟩ long).cps).toList = _
  rw [Array.toList_append, rep_one]
  rfl
theorem nm_name {first long : Int} (f0 : 0 ≤ first) (f1 : first < 26) (l0 : 0 ≤ long) (l1 : long < 8) (k : Nat) : nameS (nmS first long k) = true := by
  rw [nameS_az]
  unfold azS
  have hl : (nmS first long k).length = long.toNat + 1 := by
    show (nmS first long k).cps.size = _
    rw [← Array.length_toList, nm_list, List.length_cons, List.length_replicate]
  have m0 := Int.emod_nonneg (first + (k : Int)) (by decide : (26 : Int) ≠ 0)
  have m1 := Int.emod_lt_of_pos (first + (k : Int)) (by decide : (0 : Int) < 26)
  rw [hl, decide_eq_true (by omega), Bool.true_and, nm_list, List.all_eq_true]
  intro c hc
  apply decide_eq_true
  rw [abc_mem]
  rcases List.mem_cons.mp hc with rfl | hc
  · omega
  · have := (List.mem_replicate.mp hc).2
    omega
theorem nodup_range_map {α : Type} (g : Nat → α) : ∀ m : Nat, (∀ i j, i < m → j < m → g i = g j → i = j) → ((List.range m).map g).Nodup
  | 0, _ => by simp
  | m + 1, h => by
    rw [List.range_succ, List.map_append, List.nodup_append]
    refine ⟨nodup_range_map g m fun i j hi hj => h i j (by omega) (by omega), by simp, fun x hx y hy e => ?_⟩
    obtain ⟨i, hi, rfl⟩ := List.mem_map.mp hx
    have hy' : y = g m := by simpa using hy
    subst hy'
    have := List.mem_range.mp hi
    have := h i m (by omega) (by omega) e
    omega
theorem nm_nodup {first long : Int} {m : Nat} (hm : m ≤ 8) : ((List.range m).map (nmS first long)).Nodup := by
  refine nodup_range_map _ m fun i j hi hj e => ?_
  have e1 := congrArg (fun s : Str => s.cps.toList.head?) e
  simp only [nm_list, List.head?_cons] at e1
  have e2 := Option.some.inj e1
  have mi := Int.emod_nonneg (first + (i : Int)) (by decide : (26 : Int) ≠ 0)
  have mj := Int.emod_nonneg (first + (j : Int)) (by decide : (26 : Int) ≠ 0)
  omega
def NamesR (ds : List PyData) (d : PyData) : Prop := ∃ (m : Int) (xs : List Str), ds = [.int m] ∧ d = .list (xs.map .str) ∧ (xs.length : Int) = m ∧ xs.all nameS = true ∧ xs.Nodup
section
variable {P : Program} {w : World} {K : PySem.W.Frag} {mg : Str → Option Value} {base : Heap} {f g g2 : Addr} {fd gd gd2 : FuncData}
theorem ok_names2 (D : Def K mg "_law_names" s_names2 ["_law_bag_here", "_law_many"] f fd) (D1 : Def K mg "_law_take" s_take ["_law_bag_here", "_law_many"] g gd) (B : Blt mg) :
    FnOk P w K mg base CX0 2 f fd ["_law_bag_here", "_law_many"] (spG K 2 (fun ds => ∃ m, ds = [.int m] ∧ 0 ≤ m ∧ m ≤ 8) NamesR) := by
  refine D.F.ok sc_names2 (fun vs H Q E h => spG_len (fun ds ⟨m, e, _⟩ => by rw [e]; rfl) h) (fun cdv A outer s H vs Q E hr h => ?_)
  obtain ⟨b, a, k, ws, ds, rfl, hab, kn, bg, hd, ⟨m, rfl, m0, m1⟩, q⟩ := h
  obtain ⟨v, d, rfl, ed, hv⟩ := one_of hd rfl
  cases ed
  have G1 := ok_take (P := P) (w := w) (base := base) D1
  refine ⟨_, pss_cons (ps_set (i := 2) sc_names2.nd rfl (Or.inr rfl) pe_str)
    (pss_cons (ps_set (i := 3) sc_names2.nd rfl (Or.inr rfl) (pe_cd D1 G1 hr (pa_cons (pv 0) (pa_cons pe_int pa_nil))))
    (pss_cons (ps_set (i := 4) sc_names2.nd rfl (Or.inr rfl) (pe_cd D1 G1 hr (pa_cons (pv 0) (pa_cons pe_int pa_nil))))
    (pss_one (ps_ret (pe_lc (own := [("_law_k", 5)]) (g := gName 5) (tt := tYes) rfl sc_names2.nd (pi_range1 rfl B.range (pa_cons (pv 1) pa_nil)) (blkOk_by (N := NN2) (sc := defScope s_names2) (by decide +kernel)) (fun _ _ _ _ _ => pg_name (i := 5) sc_names2.nd rfl (Or.inl rfl)) (fun _ _ _ _ _ => pts_nil)
      (fun _ _ _ _ _ => pe_op op_addT (pe_ix ix_str (pv 2) (pe_op op_mod (pe_op op_add (pv 3) (pv 5)) pe_int) (fun _ _ => rfl)) (pe_op op_mulS (pe_ix ix_str (pv 2) (pv 3) (fun _ _ => rfl)) (pv 4)))))))), ?_⟩
  have habc : abc.length ≤ sizeLine := by decide +kernel
  refine GS.fin (m := k) (P := fun d => NamesR [.int m] d) (gs_set (P1 := (· = .str abc)) (eg_pure (fun _ _ _ => ed_str) rfl) fun v2 d2 H2 x2 hv2 e2 => gs_set (k := k + 1) (eg_take hab rfl (by decide) (by decide)) fun v3 d3 H3 x3 hv3 ⟨r, er, r0, r1⟩ =>
    gs_set (k := k) (eg_take hab rfl (by decide) (by decide)) fun v4 d4 H4 x4 hv4 ⟨l, el, l0, l1⟩ => gs_ret (eg_pure (d := .list ((List.range m.toNat).map fun i => .str (nmS r l i))) (fun H5 x5 kn5 => ?_) ?_)) kn bg fun v d H' x bg' hv p => q v d H' x bg' hv p
  · subst e2 er el
    refine ed_lcR kn5 (ed_var rfl (Dq.upB hab (Dq.upB hab hv (((x2.trans x3).trans x4))) x5)) m0 (by omega) (fun i H6 hi x6 => ?_) fun _ => rfl
    have u2 : Dq K b H6 v2 (.str abc) := (Dq.upB hab hv2 ((x3.trans x4).trans x5)).up x6
    have u3 : Dq K b H6 v3 (.int r) := (Dq.upB hab hv3 (x4.trans x5)).up x6
    have u4 : Dq K b H6 v4 (.int l) := (Dq.upB hab hv4 x5).up x6
    have mm0 := Int.emod_nonneg (r + (i : Int)) (by decide : (26 : Int) ≠ 0)
    have mm1 := Int.emod_lt_of_pos (r + (i : Int)) (by decide : (0 : Int) < 26)
    refine ed_addT (ed_ixS (ed_var rfl u2) (ed_mod (ed_add (ed_var rfl u3) (ed_var (d := .int (i : Nat)) rfl (.int _))) ed_int (by decide)) habc (abc_at mm0 mm1)) (ed_mulS (ed_ixS (ed_var rfl u2) (ed_var rfl u3) habc (abc_at r0 r1)) (ed_var rfl u4) l0 (by omega) (show 1 ≤ 1000 by decide)) ?_
    have h1 : (repS ⟨#[97 + r.toNat]⟩ l).length = l.toNat := by
      show (repS ⟨#[97 + r.toNat]⟩ l).cps.size = _
      rw [← Array.length_toList, rep_one, List.length_replicate]
    rw [h1, sizeLine_eq]
    show 1 + l.toNat ≤ _
    omega
  · refine ⟨m, (List.range m.toNat).map (nmS r l), rfl, by rw [List.map_map]; rfl, ?_, List.all_eq_true.mpr fun x hx => ?_, nm_nodup (by omega)⟩
    · rw [List.length_map, List.length_range]
      omega
    · obtain ⟨i, _, rfl⟩ := List.mem_map.mp hx
      exact nm_name r0 r1 l0 l1 i
end
end Wr

set_option Elab.async false
set_option linter.all false
set_option maxRecDepth 100000
set_option maxHeartbeats 4000000
namespace Wr
open PySem PySem.Spec PyProof.Rows L2 Evl
/-! ### how great data are -/
def okL (L : Nat) : Nat → PyData → Bool
  | _, .none => true
  | _, .bool _ => true
  | _, .int i => decide (i.natAbs < 10 ^ 40 + L)
  | _, .str x => PyData.strOk x && decide (x.length ≤ 1000)
  | n + 1, .list ds => decide (ds.length ≤ L) && ds.all (okL L n)
  | n + 1, .tuple ds => decide (ds.length ≤ L) && ds.all (okL L n)
  | _, _ => false
theorem int_room {L i : Nat} (hL : L ≤ 1000) (h : i < 10 ^ 40 + L) : i < 10 ^ 45 := by
  have : (10 ^ 40 + 1000 : Nat) < 10 ^ 45 := by decide
  omega
theorem okL_ok {L : Nat} (hL : L ≤ 1000) : ∀ (n : Nat) (d : PyData), okL L n d = true → okD n d = true
  | 0, .none, _ => rfl
  | 0, .bool _, _ => rfl
  | 0, .int i, h => decide_eq_true (int_room hL (of_decide_eq_true h))
  | 0, .str x, h => h
  | 0, .list ds, h => by cases h
  | 0, .tuple ds, h => by cases h
  | 0, .dict _, h => by cases h
  | _ + 1, .none, _ => rfl
  | _ + 1, .bool _, _ => rfl
  | _ + 1, .int i, h => decide_eq_true (int_room hL (of_decide_eq_true h))
  | _ + 1, .str x, h => h
  | _ + 1, .dict _, h => by cases h
  | n + 1, .list ds, h => by
    have h' : (decide (ds.length ≤ L) && ds.all (okL L n)) = true := h
    show (decide (ds.length ≤ 1000) && ds.all (okD n)) = true
    rw [Bool.and_eq_true] at h' ⊢
    exact ⟨decide_eq_true (Nat.le_trans (of_decide_eq_true h'.1) hL), List.all_eq_true.mpr fun d hd => okL_ok hL n d (List.all_eq_true.mp h'.2 d hd)⟩
  | n + 1, .tuple ds, h => by
    have h' : (decide (ds.length ≤ L) && ds.all (okL L n)) = true := h
    show (decide (ds.length ≤ 1000) && ds.all (okD n)) = true
    rw [Bool.and_eq_true] at h' ⊢
    exact ⟨decide_eq_true (Nat.le_trans (of_decide_eq_true h'.1) hL), List.all_eq_true.mpr fun d hd => okL_ok hL n d (List.all_eq_true.mp h'.2 d hd)⟩
theorem okL_up {L M : Nat} (hL : L ≤ M) : ∀ (n m : Nat) (d : PyData), n ≤ m → okL L n d = true → okL M m d = true
  | _, 0, .none, _, _ => rfl
  | _, _ + 1, .none, _, _ => rfl
  | _, 0, .bool _, _, _ => rfl
  | _, _ + 1, .bool _, _, _ => rfl
  | n, m, .int i, _, h => by
    have h' : decide (i.natAbs < 10 ^ 40 + L) = true := by cases n <;> exact h
    have h2 : decide (i.natAbs < 10 ^ 40 + M) = true := decide_eq_true (by have := of_decide_eq_true h'; omega)
    cases m <;> exact h2
  | n, m, .str x, _, h => by cases n <;> cases m <;> exact h
  | 0, _, .list ds, _, h => by cases h
  | 0, _, .tuple ds, _, h => by cases h
  | 0, _, .dict _, _, h => by cases h
  | _ + 1, _, .dict _, _, h => by cases h
  | n + 1, 0, .list ds, hm, h => by omega
  | n + 1, 0, .tuple ds, hm, h => by omega
  | n + 1, m + 1, .list ds, hm, h => by
    have h' : (decide (ds.length ≤ L) && ds.all (okL L n)) = true := h
    show (decide (ds.length ≤ M) && ds.all (okL M m)) = true
    rw [Bool.and_eq_true] at h' ⊢
    exact ⟨decide_eq_true (Nat.le_trans (of_decide_eq_true h'.1) hL), List.all_eq_true.mpr fun d hd => okL_up hL n m d (by omega) (List.all_eq_true.mp h'.2 d hd)⟩
  | n + 1, m + 1, .tuple ds, hm, h => by
    have h' : (decide (ds.length ≤ L) && ds.all (okL L n)) = true := h
    show (decide (ds.length ≤ M) && ds.all (okL M m)) = true
    rw [Bool.and_eq_true] at h' ⊢
    exact ⟨decide_eq_true (Nat.le_trans (of_decide_eq_true h'.1) hL), List.all_eq_true.mpr fun d hd => okL_up hL n m d (by omega) (List.all_eq_true.mp h'.2 d hd)⟩
theorem okL_tup {L n : Nat} {ds : List PyData} (hl : ds.length ≤ L) (h : ∀ d ∈ ds, okL L n d = true) : okL L (n + 1) (.tuple ds) = true := by
  show (decide (ds.length ≤ L) && ds.all (okL L n)) = true
  rw [decide_eq_true hl, Bool.true_and]
  exact List.all_eq_true.mpr h
theorem okL_items {L n : Nat} {ds : List PyData} (h : okL L (n + 1) (.tuple ds) = true) : ds.length ≤ L ∧ ∀ d ∈ ds, okL L n d = true := by
  have h' : (decide (ds.length ≤ L) && ds.all (okL L n)) = true := h
  rw [Bool.and_eq_true] at h'
  exact ⟨of_decide_eq_true h'.1, List.all_eq_true.mp h'.2⟩
mutual
def szD : PyData → Nat
  | .none => 4
  | .bool _ => 5
  | .int _ => 1921
  | .str x => 10 * x.length + 2
  | .list xs => szAll xs + 3
  | .tuple xs => szAll xs + 3
  | .dict _ => 0
def szAll : List PyData → Nat
  | [] => 0
  | x :: xs => szD x + 2 + szAll xs
end
theorem szAll_app (xs ys : List PyData) : szAll (xs ++ ys) = szAll xs + szAll ys := by
  induction xs with
  | nil => simp only [List.nil_append, szAll, Nat.zero_add]
  | cons x r ih =>
    simp only [List.cons_append, szAll, ih]
    omega
theorem szAll_le {c : Nat} : ∀ {xs : List PyData}, (∀ x ∈ xs, szD x ≤ c) → szAll xs ≤ xs.length * (c + 2)
  | [], _ => by simp only [szAll]; omega
  | x :: xs, h => by
    have h1 := h x List.mem_cons_self
    have h2 := szAll_le fun y hy => h y (List.mem_cons_of_mem _ hy)
    simp only [szAll, List.length_cons, Nat.add_mul]
    omega
theorem szD_str (x : Str) : szD (.str x) = 10 * x.length + 2 := by simp only [szD]
theorem szD_int (i : Int) : szD (.int i) = 1921 := by simp only [szD]
theorem szD_tup (xs : List PyData) : szD (.tuple xs) = szAll xs + 3 := by simp only [szD]
theorem szD_lst (xs : List PyData) : szD (.list xs) = szAll xs + 3 := by simp only [szD]
theorem name_len {x : Str} (h : nameS x = true) : x.length ≤ 8 := by
  unfold nameS at h
  rw [Bool.and_eq_true] at h
  exact of_decide_eq_true h.1
theorem okL_str {L n : Nat} {x : Str} (h : PyData.strOk x = true) (hl : x.length ≤ 1000) : okL L n (.str x) = true := by
  have e : (PyData.strOk x && decide (x.length ≤ 1000)) = true := by
    rw [h, decide_eq_true hl]
    rfl
  cases n <;> exact e
theorem okL_int {L n : Nat} {i : Int} (h : i.natAbs < 10 ^ 40) : okL L n (.int i) = true := by
  have h2 : decide (i.natAbs < 10 ^ 40 + L) = true := decide_eq_true (by omega)
  cases n <;> exact h2
end Wr

set_option Elab.async false
set_option linter.all false
set_option maxRecDepth 100000
set_option maxHeartbeats 4000000
namespace Wr
open PySem PySem.Spec PyProof.Rows L2 Evl
abbrev s_row3 : Stmt := topS 46
abbrev NR3 : List Str := ["_law_bag_here", "_law_at", "_law_many", "_law_called", "_law_names_here", "_law_alone", "_law_way", "_law_goal"]
theorem sc_row3 : FnScope NR3 ["_law_bag_here", "_law_at", "_law_many", "_law_called", "_law_names_here"] (defScope s_row3) := ⟨rfl, rfl, rfl, by decide +kernel, rfl, by decide +kernel, by decide +kernel⟩
structure RowArgs (i m : Int) (xs ys : List Str) : Prop where
  i0 : 0 ≤ i
  m0 : 1 ≤ m
  m1 : m ≤ 60
  x0 : 1 ≤ xs.length
  x1 : xs.length ≤ 8
  xn : xs.all nameS = true
  y0 : 1 ≤ ys.length
  y1 : ys.length ≤ 8
  yn : ys.all nameS = true
def RowP (i m : Int) (xs : List Str) (d : PyData) : Prop := rowD d i m xs = true ∧ okL 60 1 d = true ∧ szD d ≤ 2000
theorem row_words {z : Str} (h : z ∈ loneW ++ nameW ++ rowW) : PyData.strOk z = true ∧ z.length ≤ 6 := by
  have q : ((loneW ++ nameW ++ rowW).all fun z => PyData.strOk z && decide (z.length ≤ 6)) = true := by decide +kernel
  have := List.all_eq_true.mp q z h
  rw [Bool.and_eq_true] at this
  exact ⟨this.1, of_decide_eq_true this.2⟩
theorem worth_small {d : PyData} (h : worthD d = true) : ∃ i, d = .int i ∧ i.natAbs < 10 ^ 40 := by
  cases d with
  | int i =>
    have h' : (decide (-1000000000000 ≤ i) && decide (i ≤ 1000000000000)) = true := h
    rw [Bool.and_eq_true] at h'
    have h1 := of_decide_eq_true h'.1
    have h2 := of_decide_eq_true h'.2
    refine ⟨i, rfl, ?_⟩
    have : (1000000000000 : Nat) < 10 ^ 40 := by decide
    omega
  | none => cases h
  | bool _ => cases h
  | str _ => cases h
  | list _ => cases h
  | tuple _ => cases h
  | dict _ => cases h
/-- a row of a written word and something small -/
theorem rowP_two {i m : Int} {xs : List Str} {z : Str} {c : PyData} (hz : PyData.strOk z = true) (hl : z.length ≤ 6) (hr : rowD (.tuple [.str z, c]) i m xs = true) (hc : okL 60 0 c = true) (hs : szD c ≤ 1921) : RowP i m xs (.tuple [.str z, c]) := by
  refine ⟨hr, okL_tup (by show 2 ≤ 60; decide) fun d hd => ?_, ?_⟩
  · simp only [List.mem_cons, List.not_mem_nil, or_false] at hd
    rcases hd with rfl | rfl
    · exact okL_str hz (by omega)
    · exact hc
  · rw [szD_tup]
    simp only [szAll, szD_str]
    omega
theorem rowP_go {i m g : Int} {xs : List Str} {z : Str} (hz : z ∈ rowW) (h0 : 0 ≤ g) (h1 : g < m) (hm : m ≤ 60) (ht : z = "try" → g ≠ i + 1) : RowP i m xs (.tuple [.str z, .int g]) := by
  have hw := row_words (z := z) (List.mem_append_right _ hz)
  have hb : g.natAbs < 10 ^ 40 := by
    have : (60 : Nat) < 10 ^ 40 := by decide
    omega
  refine rowP_two hw.1 hw.2 ?_ (okL_int hb) (by rw [szD_int]; exact Nat.le_refl _)
  have n1 : z ≠ "put" ∧ z ∉ nameW ∧ z ≠ "call" := by
    rcases (show z = "go" ∨ z = "if" ∨ z = "try" by simpa [rowW] using hz) with rfl | rfl | rfl <;> refine ⟨by decide +kernel, by decide +kernel, by decide +kernel⟩
  rw [rowD_two, strEq, strEq, strEq, inD_str, inD_str, decide_eq_false n1.1, decide_eq_false n1.2.1, decide_eq_false n1.2.2, decide_eq_true hz]
  show (true && (indexD (.int g) m && !(decide (z = "try") && PyData.eqv (.int g) (.int (i + 1))))) = true
  rw [eqv_int]
  have e1 : indexD (.int g) m = true := by
    show (decide (0 ≤ g) && decide (g < m)) = true
    rw [decide_eq_true h0, decide_eq_true h1]
    rfl
  rw [e1]
  by_cases hq : z = "try"
  · rw [beq_eq_false_iff_ne.mpr (ht hq), Bool.and_false]
    rfl
  · rw [decide_eq_false hq]
    rfl
section
variable {P : Program} {w : World} {K : PySem.W.Frag} {mg : Str → Option Value} {base : Heap} {f g g2 : Addr} {fd gd gd2 : FuncData}
def RowGenPre (ds : List PyData) : Prop := ∃ (i m : Int) (xs ys : List Str), ds = [.int i, .int m, .list (xs.map .str), .list (ys.map .str)] ∧ RowArgs i m xs ys
def RowGenR (ds : List PyData) (d : PyData) : Prop := ∃ (i m : Int) (xs ys : List Str), ds = [.int i, .int m, .list (xs.map .str), .list (ys.map .str)] ∧ RowP i m xs d
theorem ok_row3 (D : Def K mg "_law_any_row" s_row3 ["_law_bag_here", "_law_at", "_law_many", "_law_called", "_law_names_here"] f fd) (D1 : Def K mg "_law_take" s_take ["_law_bag_here", "_law_many"] g gd)
    (D2 : Def K mg "_law_worth" s_worth2 ["_law_bag_here"] g2 gd2) (B : Blt mg) :
    FnOk P w K mg base CX0 3 f fd ["_law_bag_here", "_law_at", "_law_many", "_law_called", "_law_names_here"] (spG K 4 RowGenPre RowGenR) := by
  refine D.F.ok sc_row3 (fun vs H Q E h => spG_len (fun ds ⟨i, m, xs, ys, e, _⟩ => by rw [e]; rfl) h) (fun cdv A outer s H vs Q E hr h => ?_)
  obtain ⟨b, a, k, ws, ds, rfl, hab, kn, bg, hd, ⟨i, m, xs, ys, rfl, RA⟩, q⟩ := h
  obtain ⟨v, v2, v3, v4, d1, d2, d3, d4, rfl, ed, h1, h2, h3, h4⟩ := four_of hd rfl
  cases ed
  have G1 := ok_take (P := P) (w := w) (base := base) D1
  have G2 := ok_worth2 (P := P) (w := w) (base := base) D2 D1
  have hr1 : Room 1 _ := hr.mono (by decide)
  refine ⟨_, pss_cons (ps_set (i := 5) sc_row3.nd rfl (Or.inl rfl) (pe_bm PySem.F.plainAttrs_str PySem.F.slot_str_split PySem.F.type_str_split mt_splitD pe_str (pa_cons pe_str pa_nil)))
    (pss_cons (ps_set (i := 6) sc_row3.nd rfl (Or.inl rfl) (pe_cd D1 G1 hr1 (pa_cons (pv 0) (pa_cons pe_int pa_nil))))
    (pss_cons (ps_set (i := 7) sc_row3.nd rfl (Or.inl rfl) (pe_cd D1 G1 hr1 (pa_cons (pv 0) (pa_cons (pv 2) pa_nil))))
    (pss_cons (ps_if (pt_cmpR (op_eqD (hu64 hr)) (pv 6) pe_int (nomark _)) (pss_one (ps_ret (pe_tupF (pa_cons pe_str (pa_cons (pe_cd D2 G2 hr (pa_cons (pv 0) pa_nil)) pa_nil))))) pss_nil)
    (pss_cons (ps_if (pt_cmpR op_lt (pv 6) pe_int (nomark _)) (pss_one (ps_ret (pe_tupF (pa_cons (pe_ix ix_list (pe_lst (pa_cons pe_str (pa_cons pe_str (pa_cons pe_str (pa_cons pe_str pa_nil))))) (pe_cd D1 G1 hr1 (pa_cons (pv 0) (pa_cons pe_int pa_nil))) (fun _ _ => rfl))
      (pa_cons (pe_ix ix_list (pv 4) (pe_cd D1 G1 hr1 (pa_cons (pv 0) (pa_cons (pe_callB call_lenD1 rfl B.len bb_len (pa_cons (pv 4) pa_nil)) pa_nil))) (fun _ _ => rfl)) pa_nil))))) pss_nil)
    (pss_cons (ps_if (pt_cmpR (op_eqD (hu64 hr)) (pv 6) pe_int (nomark _)) (pss_one (ps_ret (pe_tupF (pa_cons pe_str (pa_cons (pe_ix ix_list (pv 3) (pe_cd D1 G1 hr1 (pa_cons (pv 0) (pa_cons (pe_callB call_lenD1 rfl B.len bb_len (pa_cons (pv 3) pa_nil)) pa_nil))) (fun _ _ => rfl)) pa_nil))))) pss_nil)
    (pss_cons (ps_if (pt_cmpR op_lt (pv 6) pe_int (nomark _)) (pss_one (ps_ret (pe_tupF (pa_cons pe_str (pa_cons (pv 7) pa_nil))))) pss_nil)
    (pss_cons (ps_if (pt_cmpR (op_eqD (hu64 hr)) (pv 6) pe_int (nomark _)) (pss_one (ps_ret (pe_tupF (pa_cons pe_str (pa_cons (pv 7) pa_nil))))) pss_nil)
    (pss_cons (ps_if (PW.pt (pw_and (pt_cmpR (op_eqD (hu64 hr)) (pv 6) pe_int (nomark _)) (pw_and1 (pt_cmpR (op_neD (hu64 hr)) (pv 7) (pe_op op_add (pv 1) pe_int) (nomark _))))) (pss_one (ps_ret (pe_tupF (pa_cons pe_str (pa_cons (pv 7) pa_nil))))) pss_nil)
    (pss_one (ps_ret (pe_tupF (pa_cons (pe_ix ix_list (pv 5) (pe_cd D1 G1 hr1 (pa_cons (pv 0) (pa_cons pe_int pa_nil))) (fun _ _ => rfl)) pa_nil)))))))))))), ?_⟩
  have hso : xs.all PyData.strOk = true := List.all_eq_true.mpr fun x hx => name_strOk (List.all_eq_true.mp RA.xn x hx)
  refine GS.fin (m := k) (P := RowP i m xs) (gs_set (P1 := (· = .list (loneW.map .str))) (eg_pure (fun H1 _ kn1 => (ed_split kn1 ed_str ed_str (by decide +kernel) (by decide +kernel)).to (by rw [split_alone])) rfl) fun v5 d5 H5 x5 hv5 e5 =>
    gs_set (k := k + 3) (eg_take hab rfl (by decide) (by decide)) fun v6 d6 H6 x6 hv6 ⟨r, er, r0, r1⟩ =>
    gs_set (k := k + 2) (eg_takeE (u := m) (P1 := (· = .int m)) hab rfl (eg_var rfl hab (Dq.upB hab h2 (x5.trans x6)) rfl) fun d e => ⟨m, e, by have := RA.m0; omega, by have := RA.m1; omega, Int.le_refl m⟩) fun v7 d7 H7 x7 hv7 ⟨gl, eg, g0, g1⟩ => ?_) kn bg fun v d H' x bg' hv p => q v d H' x bg' hv ⟨i, m, xs, ys, rfl, p⟩
  subst e5 er eg
  have u6 : ∀ {H'}, ExB a H7 H' → Dq K b H' v6 (.int r) := fun x => Dq.upB hab (Dq.upB hab hv6 x7) x
  have u7 : ∀ {H'}, ExB a H7 H' → Dq K b H' v7 (.int gl) := fun x => Dq.upB hab hv7 x
  have u1 : ∀ {H'}, ExB a H7 H' → Dq K b H' v (.int i) := fun x => Dq.upB hab h1 (((x5.trans x6).trans x7).trans x)
  have u3 : ∀ {H'}, ExB a H7 H' → Dq K b H' v3 (.list (xs.map .str)) := fun x => Dq.upB hab h3 (((x5.trans x6).trans x7).trans x)
  have u4 : ∀ {H'}, ExB a H7 H' → Dq K b H' v4 (.list (ys.map .str)) := fun x => Dq.upB hab h4 (((x5.trans x6).trans x7).trans x)
  have u5 : ∀ {H'}, ExB a H7 H' → Dq K b H' v5 (.list (loneW.map .str)) := fun x => Dq.upB hab hv5 ((x6.trans x7).trans x)
  have teq : ∀ (c : Int) H1, ExB a H7 H1 → Kn b H1 → EvT (tTest (tOp (rEqD K) (tVar 6) (tC (.int c)))) (((((start NR3 [.ref a, v, v2, v3, v4]).set 5 (some v5)).set 6 (some v6)).set 7 (some v7))) H1 (r == c) := fun c H1 x1 _ => by
    have := et_t (ed_eq (K := K) (b := b) (σ := ((((start NR3 [.ref a, v, v2, v3, v4]).set 5 (some v5)).set 6 (some v6)).set 7 (some v7))) (ed_var (i := 6) rfl (u6 x1)) (ed_int (i := c)) (sh_int _) (sh_int _))
    rw [eqv_int] at this
    exact this
  have tlt : ∀ (c : Int) H1, ExB a H7 H1 → Kn b H1 → EvT (tTest (tOp (rI0 fun i j => .bl (decide (i < j))) (tVar 6) (tC (.int c)))) (((((start NR3 [.ref a, v, v2, v3, v4]).set 5 (some v5)).set 6 (some v6)).set 7 (some v7))) H1 (decide (r < c)) := fun c H1 x1 _ =>
    et_t (ed_lt (K := K) (b := b) (ed_var (i := 6) rfl (u6 x1)) (ed_int (i := c)))
  have goP : ∀ z : Str, z ∈ rowW → (z = "try" → gl ≠ i + 1) → GS K b a (k + 2) k (tRet (tTupF (tCons (tC (.str z)) (tCons (tVar 7) tNil)))) (((((start NR3 [.ref a, v, v2, v3, v4]).set 5 (some v5)).set 6 (some v6)).set 7 (some v7))) H7 (RowP i m xs) := fun z hz ht =>
    gs_ret ((eg_tup (ega_cons (P := (· = .str z)) hab (eg_pure (fun _ _ _ => ed_str) rfl) (ega_cons (P := (· = .int gl)) hab (eg_pure (fun H1 x1 _ => ed_var (i := 7) rfl (u7 x1)) rfl) ega_nil)) fun ds ⟨d, r', e, p, d', r'', e', p', e''⟩ => by
      subst e e' p p' e''
      exact ⟨by show 2 ≤ sizeLine; decide, rowP_go hz g0 g1 RA.m1 ht⟩).le (by omega))
  refine gs_if (teq 0) (fun _ => gs_ret (eg_tup (ega_cons (P := (· = .str "put")) hab (eg_pure (fun _ _ _ => ed_str) rfl) (ega_cons hab (eg_call (P := fun d => worthD d = true) (c := 2) hab rfl ega_nil (fun ds e => e) fun ds d _ hw => hw) ega_nil)) ?_)) fun _ =>
    gs_if (tlt 3) (fun _ => gs_ret (eg_tup (ega_cons (P := fun d => ∃ z, d = .str z ∧ z ∈ nameW) (k := k + 1) hab (eg_ixL hab (eg_pure (P := (· = .list (nameW.map .str))) (fun H1 _ kn1 => ed_lst kn1 (ea_cons ed_str (ea_cons ed_str (ea_cons ed_str (ea_cons ed_str ea_nil)))) (by decide)) rfl) (eg_take (n := k + 1) hab rfl (by decide) (by decide)) ?_)
      (ega_cons (P := fun d => ∃ z, d = .str z ∧ z ∈ ys) hab (eg_ixL hab (eg_pure (P := (· = .list (ys.map .str))) (fun H1 x1 _ => ed_var rfl (u4 x1)) rfl) (eg_takeE (u := (ys.length : Nat)) (P1 := (· = .int (ys.length : Nat))) hab rfl (eg_pure (fun H1 x1 _ => (ed_len (ed_var rfl (u4 x1)) (.inr (.inl rfl)) (fun y e => by cases e)).to (by show PyData.int (((ys.map PyData.str).length : Nat) : Int) = _; rw [List.length_map])) rfl) fun d e => ⟨_, e, by have := RA.y0; omega, by have := RA.y1; omega, Int.le_refl _⟩) ?_) ega_nil)) ?_)) fun _ =>
    gs_if (teq 3) (fun _ => gs_ret ((eg_tup (ega_cons (P := (· = .str "call")) (k := k + 2) hab (eg_pure (fun _ _ _ => ed_str) rfl)
      (ega_cons (P := fun d => ∃ z, d = .str z ∧ z ∈ xs) (k := k + 1) hab (eg_ixL hab (eg_pure (P := (· = .list (xs.map .str))) (fun H1 x1 _ => ed_var rfl (u3 x1)) rfl) (eg_takeE (u := (xs.length : Nat)) (P1 := (· = .int (xs.length : Nat))) hab rfl (eg_pure (fun H1 x1 _ => (ed_len (ed_var rfl (u3 x1)) (.inr (.inl rfl)) (fun y e => by cases e)).to (by show PyData.int (((xs.map PyData.str).length : Nat) : Int) = _; rw [List.length_map])) rfl) fun d e => ⟨_, e, by have := RA.x0; omega, by have := RA.x1; omega, Int.le_refl _⟩) ?_) ega_nil)) ?_).le (by omega))) fun _ =>
    gs_if (tlt 6) (fun _ => goP "go" (by decide +kernel) (fun h => absurd h (by decide +kernel))) fun _ =>
    gs_if (teq 6) (fun _ => goP "if" (by decide +kernel) (fun h => absurd h (by decide +kernel))) fun _ =>
    gs_if (c := (r == 7) && !(PyData.eqv (.int gl) (.int (i + 1)))) (fun H1 x1 kn1 => et_and (teq 7 H1 x1 kn1) fun _ => et_t (ed_ne (K := K) (b := b) (ed_var (i := 7) rfl (u7 x1)) (ed_add (ed_var (i := 1) rfl (u1 x1)) ed_int) (sh_int _) (sh_int _))) (fun hc => goP "try" (by decide +kernel) fun _ he => ?_) fun _ =>
    gs_ret ((eg_tup (ega_cons (P := fun d => ∃ z, d = .str z ∧ z ∈ loneW) (k := k + 1) hab (eg_ixL hab (eg_pure (P := (· = .list (loneW.map .str))) (fun H1 x1 _ => ed_var rfl (u5 x1)) rfl) (eg_take (n := k + 1) hab rfl (by decide) (by decide)) ?_) ega_nil) ?_).le (by omega))
  · rintro ds ⟨d, r', rfl, rfl, d', r'', rfl, hw, rfl⟩
    obtain ⟨j, rfl, hj⟩ := worth_small hw
    refine ⟨by show 2 ≤ sizeLine; decide, rowP_two (by decide +kernel) (by decide +kernel) ?_ (okL_int hj) (by rw [szD_int]; exact Nat.le_refl _)⟩
    rw [rowD_two, strEq, decide_eq_true rfl]
    exact hw
  · rintro d e rfl hi
    obtain ⟨j, z, rfl, hz, hm⟩ := intB_at (ds := nameW.map .str) hi (by decide)
    obtain ⟨y, hy, rfl⟩ := List.mem_map.mp hm
    exact ⟨_, j, _, rfl, rfl, hz, y, rfl, hy⟩
  · rintro d e rfl hi
    obtain ⟨j, z, rfl, hz, hm⟩ := intB_at (ds := ys.map .str) hi (by rw [List.length_map]; exact Int.le_refl _)
    obtain ⟨y, hy, rfl⟩ := List.mem_map.mp hm
    exact ⟨_, j, _, rfl, rfl, hz, y, rfl, hy⟩
  · rintro ds ⟨d, r', rfl, ⟨z, rfl, hz⟩, d', r'', rfl, ⟨y, rfl, hy⟩, rfl⟩
    have hw := row_words (z := z) (List.mem_append_left _ (List.mem_append_right _ hz))
    have hn := List.all_eq_true.mp RA.yn y hy
    have n1 : z ≠ "put" := by
      rcases (show z = "get" ∨ z = "set" ∨ z = "look" ∨ z = "change" by simpa [nameW] using hz) with rfl | rfl | rfl | rfl <;> decide +kernel
    refine ⟨by show 2 ≤ sizeLine; decide, rowP_two hw.1 hw.2 ?_ (okL_str (name_strOk hn) (by have := name_len hn; omega)) (by rw [szD_str]; have := name_len hn; omega)⟩
    rw [rowD_two, strEq, decide_eq_false n1, inD_str, decide_eq_true hz]
    exact hn
  · rintro d e rfl hi
    obtain ⟨j, z, rfl, hz, hm⟩ := intB_at (ds := xs.map .str) hi (by rw [List.length_map]; exact Int.le_refl _)
    obtain ⟨y, hy, rfl⟩ := List.mem_map.mp hm
    exact ⟨_, j, _, rfl, rfl, hz, y, rfl, hy⟩
  · rintro ds ⟨d, r', rfl, rfl, d', r'', rfl, ⟨y, rfl, hy⟩, rfl⟩
    have hn := List.all_eq_true.mp RA.xn y hy
    refine ⟨by show 2 ≤ sizeLine; decide, rowP_two (by decide +kernel) (by decide +kernel) ?_ (okL_str (name_strOk hn) (by have := name_len hn; omega)) (by rw [szD_str]; have := name_len hn; omega)⟩
    rw [rowD_two, strEq, strEq, inD_str, inD_str, inD_str, decide_eq_true hy]
    rfl
  · rw [Bool.and_eq_true] at hc
    have := hc.2
    rw [eqv_int, he] at this
    simp at this
  · rintro d e rfl hi
    obtain ⟨j, z, rfl, hz, hm⟩ := intB_at (ds := loneW.map .str) hi (by decide)
    obtain ⟨y, hy, rfl⟩ := List.mem_map.mp hm
    exact ⟨_, j, _, rfl, rfl, hz, y, rfl, hy⟩
  · rintro ds ⟨d, r', rfl, ⟨z, rfl, hz⟩, rfl⟩
    have hw := row_words (z := z) (List.mem_append_left _ (List.mem_append_left _ hz))
    refine ⟨by show 1 ≤ sizeLine; decide, ?_, okL_tup (by show 1 ≤ 60; decide) fun d hd => ?_, ?_⟩
    · show inD (.str z) (loneW.map .str) = true
      rw [inD_str, decide_eq_true hz]
    · rw [List.mem_singleton.mp hd]
      exact okL_str hw.1 (by omega)
    · rw [szD_tup]
      simp only [szAll, szD_str]
      omega
end
end Wr

set_option Elab.async false
set_option linter.all false
set_option maxRecDepth 100000
set_option maxHeartbeats 4000000
namespace Wr
open PySem PySem.Spec PyProof.Rows L2 Evl
/-! ### tuples made, their object known -/
abbrev tupO (its : Array Value) : Obj := { cls := .type "tuple", data := .seq its }
theorem frz_new {P : Program} {w : World} {H : Hp} {h : Heap} {xs : List V} {its : List Value} (hz : xs.length ≤ sizeLine) (r : Vals xs its) : ObjOk P w (upd H h.objs.size (.frz (tupO its.toArray) (.tup xs))) (h.push (tupO its.toArray)) h.objs.size (.frz (tupO its.toArray) (.tup xs)) :=
  ⟨Heap.get?_push_size _ rfl, hz, its, r, ⟨_, Heap.get?_push_size _ rfl, rfl, _, rfl⟩⟩
def rTupOf (K : PySem.W.Frag) : List V → Hp → VK → Prop := fun xs H Q => ∃ p ys, xs = [.ref p] ∧ SqL K H p ys ∧ ∀ l o, H l = none → o.dict = none → Q (.ref l) (upd H l (.frz o (.tup ys)))
theorem call_tupF {X : Cx} : CallR X (.type "tuple") (rTupOf X.K) := by
  intro pins s σ H xs us Q I r ⟨p, ys, e, hq, q⟩
  subst e
  obtain ⟨u, rfl, rx⟩ := vals1 r
  cases rx
  obtain ⟨its, r', pl, hz⟩ := I.list hq
  have hlen := r'.length
  refine call_tuple_list pl.isList (fun h' kp => ?_) (by simp only [List.size_toArray] <;> omega)
  have I1 : Inv X pins σ H { s with heap := h' } := I.kept (t' := s.toks) kp
  exact ⟨.ref h'.objs.size, _, I1.laid (t' := s.toks) (fun b o e => Heap.get?_push_of_some _ e) (Nat.le_refl _) (frz_new hz r'), rfl, q _ _ (I1.hok.fresh (Nat.le_refl _)) rfl⟩
def rSlF (K : PySem.W.Frag) : V → Option Int → Option Int → Hp → VK → Prop := fun x lo hi H Q => ∃ a xs, x = .ref a ∧ SqT K H a xs ∧ (xs = cutV xs lo hi → Q (.ref a) H) ∧ ∀ p o, H p = none → o.dict = none → Q (.ref p) (upd H p (.frz o (.tup (cutV xs lo hi))))
theorem sl_tupF {X : Cx} : SlR X (rSlF X.K) := by
  intro pins s σ H x v vl vu lo hi sl Q I rx hs pl pu ⟨a, xs, e, hx, q1, q2⟩
  subst e
  cases rx
  obtain ⟨its, r, ht, hz⟩ := I.tuple hx
  have hlen : its.toArray.size = xs.length := by rw [List.size_toArray]; exact r.length.symm
  refine ⟨"tuple", _, PyProof.Rows.slot_tuple_getitem.lookup, ht.typeIs, ?_⟩
  by_cases hw : HT.sIx xs.length 0 lo = 0 ∧ HT.sIx xs.length xs.length hi = xs.length
  · refine getItem_tuple_whole ht hs pl pu (by rw [hlen]; exact hw) ⟨.ref a, H, I, rfl, q1 ?_⟩
    unfold cutV
    rw [hw.1, hw.2]
    simp
  · refine HT.getItem_tuple_cut ht hs pl pu (by rw [hlen]; exact hw) ?_ (by rw [hlen]; exact hz)
    rw [hlen]
    exact ⟨.ref s.heap.objs.size, _, I.laid (t' := s.toks) (fun b ob q => Heap.get?_push_of_some _ q) (Nat.le_refl _) (frz_new (Nat.le_trans (cutV_length xs lo hi) hz) ((r.drop (HT.sIx xs.length 0 lo)).take (HT.sIx xs.length xs.length hi - HT.sIx xs.length 0 lo))), rfl, q2 _ _ (I.hok.fresh (Nat.le_refl _)) rfl⟩
def rCatF (K : PySem.W.Frag) : R2 := fun x y H Q => ∃ a b xs ys, x = .ref a ∧ y = .ref b ∧ SqT K H a xs ∧ SqT K H b ys ∧ xs.length + ys.length ≤ sizeLine ∧ (xs = [] → Q (.ref b) H) ∧ (ys = [] → Q (.ref a) H) ∧ ∀ p o, H p = none → o.dict = none → Q (.ref p) (upd H p (.frz o (.tup (xs ++ ys))))
theorem op_catF {X : Cx} : OpR X (binaryOp .Add) (rCatF X.K) := by
  intro pins s σ H x y v u Q I rx ry ⟨a, b, xs, ys, e1, e2, ha, hb, hz, q0, q1, q2⟩
  subst e1 e2
  cases rx
  cases ry
  obtain ⟨its, r1, p1, _⟩ := I.tuple ha
  obtain ⟨its2, r2, p2, _⟩ := I.tuple hb
  by_cases hx : xs = []
  · subst hx
    cases r1
    exact cat_tup0 p1 p2 ⟨.ref b, H, I, rfl, q0 rfl⟩
  · refine HT.cat_tup p1 p2 (fun z => hx (r1.nil_iff.mp z)) (fun z => ⟨.ref a, H, I, rfl, q1 (r2.nil_iff.mp z)⟩) (fun z => ?_) (by rw [← r1.length, ← r2.length]; exact hz)
    exact ⟨.ref s.heap.objs.size, _, I.laid (t' := s.toks) (fun b ob q => Heap.get?_push_of_some _ q) (Nat.le_refl _) (frz_new (by rw [List.length_append]; exact hz) (r1.append r2)), rfl, q2 _ _ (I.hok.fresh (Nat.le_refl _)) rfl⟩
/-! ### on data -/
def cutD (ds : List PyData) (lo hi : Option Int) : List PyData := (ds.drop (HT.sIx ds.length 0 lo)).take (HT.sIx ds.length ds.length hi - HT.sIx ds.length 0 lo)
theorem cut_dps {K : PySem.W.Frag} {H : Hp} {vs : List V} {ds : List PyData} (h : DdAll K H vs ds) (lo hi : Option Int) : DdAll K H (cutV vs lo hi) (cutD ds lo hi) := by
  unfold cutV cutD
  rw [dps_len h]
  exact dps_take _ (dps_drop _ h)
section
variable {K : PySem.W.Frag} {b : List Addr} {a : Addr} {n m k : Nat} {σ : L2.St} {H H' : Hp} {ta tb te : TE} {t : TA} {P : PyData → Prop} {d : PyData} {ds es : List PyData}
theorem dq_newT {p : Addr} {o : Obj} {vs : List V} (kn : Kn b H) (hp : H p = none) (ho : o.dict = none) (hd : DqAll K b H vs ds) : Dq K b (upd H p (.frz o (.tup vs))) (.ref p) (.tuple ds) := by
  have e := hid_new (o := HO.frz o (.tup vs)) (H := H) (kn.new hp)
  exact .tup (.inl (.inr ⟨_, e⟩)) (.inl ⟨_, _, e, ho⟩) (DqAll.up hd (Ex.new hp))
def EO (to : TO) (σ : L2.St) (H : Hp) (o : Option Int) : Prop := ∀ H1, Ex H H1 → ∀ Q : Option Int → Hp → Prop, (∀ H2, Ex H1 H2 → Q o H2) → to σ H1 Q
theorem eo_none : EO tNoPart σ H none := fun H1 x Q q => q H1 (Ex.refl H1)
theorem eo_some {i : Int} (h : ED K b te σ H (.int i)) : EO (tPart te) σ H (some i) := fun H1 x Q q => h H1 x _ fun v H2 x2 hv => ⟨i, dq_int hv, q H2 x2⟩
theorem ed_slT {tl th : TO} {lo hi : Option Int} (kn : Kn b H) (ha : ED K b ta σ H (.tuple ds)) (h1 : EO tl σ H lo) (h2 : EO th σ H hi) : ED K b (tSl (rSlF K) ta tl th) σ H (.tuple (cutD ds lo hi)) := fun H1 x1 Q q =>
  ha H1 x1 _ fun x H2 x2 hx => h1 H2 (x1.trans x2) _ fun H3 x3 => h2 H3 ((x1.trans x2).trans x3) _ fun H4 x4 => by
    have hx4 := (hx.up x3).up x4
    have hx5 := hx4
    cases hx5 with
    | tup g1 gn g2 =>
      have kn4 := kn.up (((x1.trans x2).trans x3).trans x4)
      refine ⟨_, _, rfl, ex_t hid_le g1, fun e => ?_, fun p o hp ho => ?_⟩
      · have e2 : DdAll K (hid b H4) _ (cutD ds lo hi) := cut_dps g2 lo hi
        rw [← e] at e2
        exact q _ H4 ((x2.trans x3).trans x4) (.tup g1 gn e2)
      · exact q _ _ (((x2.trans x3).trans x4).trans (Ex.new hp)) (dq_newT kn4 hp ho (cut_dps g2 lo hi))
/-- t + u, as a rule on data -/
theorem cat_data {x y : V} {Q : VK} (kn : Kn b H) (hx : Dq K b H x (.tuple ds)) (hy : Dq K b H y (.tuple es)) (hl : ds.length + es.length ≤ sizeLine) (q : ∀ v H2, Ex H H2 → Dq K b H2 v (.tuple (ds ++ es)) → Q v H2) : rCatF K x y H Q := by
  have hx' := hx
  have hy' := hy
  cases hx' with
  | tup g1 gn g2 =>
    cases hy' with
    | tup f1 fn f2 =>
      refine ⟨_, _, _, _, rfl, rfl, ex_t hid_le g1, ex_t hid_le f1, by rw [dps_len g2, dps_len f2]; exact hl, fun e => ?_, fun e => ?_, fun p o hp ho => ?_⟩
      · subst e
        have : ds = [] := by cases g2; rfl
        subst this
        exact q _ H (Ex.refl H) hy
      · subst e
        have : es = [] := by cases f2; rfl
        subst this
        rw [List.append_nil] at q
        exact q _ H (Ex.refl H) hx
      · exact q _ _ (Ex.new hp) (dq_newT kn hp ho (dps_app g2 f2))
theorem ed_catT (kn : Kn b H) (ha : ED K b ta σ H (.tuple ds)) (hb : ED K b tb σ H (.tuple es)) (hl : ds.length + es.length ≤ sizeLine) : ED K b (tOp (rCatF K) ta tb) σ H (.tuple (ds ++ es)) :=
  ed_op ha hb fun H1 x y Q x1 hx hy q => cat_data (kn.up x1) hx hy hl fun v H2 x2 hv => q v H2 x2 hv
theorem eg_catT {P1 P2 : PyData → Prop} (ha : a ∈ b) (h1 : EG K b a n k ta σ H P1) (h2 : EG K b a k m tb σ H P2) (hi : ∀ d e, P1 d → P2 e → ∃ ds es, d = .tuple ds ∧ e = .tuple es ∧ ds.length + es.length ≤ sizeLine ∧ P (.tuple (ds ++ es))) : EG K b a n m (tOp (rCatF K) ta tb) σ H P :=
  eg_op ha h1 h2 fun d e H1 x y Q p1 p2 _ kn1 hx hy q => by
    obtain ⟨ds, es, rfl, rfl, hl, p⟩ := hi d e p1 p2
    exact cat_data kn1 hx hy hl fun v H2 x2 hv => q v _ H2 x2 hv p
theorem eg_lst {R : List PyData → Prop} (h : EGA K b a n m t σ H R) (hl : ∀ ds, R ds → ds.length ≤ sizeLine ∧ P (.list ds)) : EG K b a n m (tLst t) σ H P := fun H1 x1 kn bg Q q =>
  h H1 x1 kn bg _ fun vs ds H2 x2 b2 hvs r => ⟨by rw [dps_len hvs]; exact (hl ds r).1, fun p hp => q _ (.list ds) _ (x2.trans (exb (Ex.new hp))) (b2.ex (Ex.new hp)) (.lst (.inl (.inl (hid_new ((x2.kn kn b2).new hp)))) (hvs.up (Ex.new hp))) (hl ds r).2⟩
/-- tuple(list) -/
theorem eg_tupOf {P1 : PyData → Prop} (h : EG K b a n m ta σ H P1) (hi : ∀ d, P1 d → ∃ ds, d = .list ds ∧ P (.tuple ds)) : EG K b a n m (tCB (rTupOf K) (tCons ta tNil)) σ H P := fun H1 x1 kn bg Q q =>
  h H1 x1 kn bg _ fun v d H2 x2 b2 hv p1 => by
    obtain ⟨ds, rfl, p⟩ := hi d p1
    cases hv with
    | lst g1 g2 =>
      refine ⟨_, _, rfl, ex_l hid_le g1, fun l o hl ho => ?_⟩
      exact q _ (.tuple ds) _ (x2.trans (exb (Ex.new hl))) (b2.ex (Ex.new hl)) (dq_newT (x2.kn kn b2) hl ho g2) p
/-- a list's beginning, how much is drawn -/
theorem eg_slL {P1 P2 : PyData → Prop} (ha : a ∈ b) (h1 : EG K b a n k ta σ H P1) (h2 : EG K b a k m te σ H P2) (hi : ∀ d e, P1 d → P2 e → ∃ ds i, d = .list ds ∧ e = .int i ∧ P (.list (cutD ds none (some i)))) : EG K b a n m (tSl (rSlL K) ta tNoPart (tPart te)) σ H P := fun H1 x1 kn bg Q q =>
  h1 H1 x1 kn bg _ fun x d H2 x2 b2 hx p1 => h2 H2 (x1.trans x2) (x2.kn kn b2) b2 _ fun y e H3 x3 b3 hy p2 => by
    obtain ⟨ds, i, rfl, rfl, p⟩ := hi d e p1 p2
    have hx3 := hx.upB ha x3
    cases hx3 with
    | lst g1 g2 =>
      have kn3 := x3.kn (x2.kn kn b2) b3
      exact ⟨i, dq_int hy, _, _, rfl, ex_l hid_le g1, fun r hr => q _ _ _ ((x2.trans x3).trans (exb (Ex.new hr))) (b3.ex (Ex.new hr)) (.lst (.inl (.inl (hid_new (kn3.new hr)))) (DqAll.up (cut_dps g2 none (some i)) (Ex.new hr))) p⟩
/-- int(truth) -/
def rInt1 : List V → Hp → VK → Prop := fun xs H Q => (∃ i, xs = [.int i] ∧ Q (.int i) H) ∨ ∃ k, xs = [.bl k] ∧ Q (.int (if k then 1 else 0)) H
theorem call_intB {X : Cx} : CallR X (.type "int") rInt1 := call_int1
theorem ed_intB {c : Bool} (ha : ED K b ta σ H (.bool c)) : ED K b (tCB rInt1 (tCons ta tNil)) σ H (.int (if c then 1 else 0)) := fun H1 x1 Q q =>
  ha H1 x1 _ fun v H2 x2 hv => .inr ⟨c, by rw [dq_bl hv], q _ H2 x2 (.int _)⟩
/-! ### hiding one more -/
theorem hide_ex {D : Addr} (hD : H D = none) : Ex (hid b H) (hid (D :: b) H) := fun c o h => by
  obtain ⟨h1, h2⟩ := hid_some h
  have : c ∉ D :: b := fun z => by
    rcases List.mem_cons.mp z with rfl | z
    · rw [hD] at h2; cases h2
    · exact h1 z
  rw [hid_ne this]
  exact h2
theorem Dq.hide {D : Addr} {v : V} (h : Dq K b H v d) (hD : H D = none) : Dq K (D :: b) H v d := dp_ex (hide_ex hD) d v h
theorem show_ex {D : Addr} : Ex (hid (D :: b) H) (hid b H) := fun c o h => by
  obtain ⟨h1, h2⟩ := hid_some h
  rw [hid_ne fun z => h1 (List.mem_cons_of_mem _ z)]
  exact h2
theorem put_ex {D : Addr} {o : HO} : Ex (hid (D :: b) H) (hid (D :: b) (upd H D o)) := fun c u h => by
  obtain ⟨h1, h2⟩ := hid_some h
  rw [hid_ne h1, upd_ne fun z => h1 (by rw [z]; exact List.mem_cons_self)]
  exact h2
/-- [.. for i in range(n)], each item drawn -/
theorem eg_lcR {i0 c N : Nat} {R : Nat → PyData → Prop} (ha : a ∈ b) (hcount : ∀ H1, ExB a H H1 → Kn b H1 → ED K b ta σ H1 (.int (N : Nat))) (hN : N ≤ 1000)
    (he : ∀ (D : Addr) (i f : Nat) (H0 H1 : Hp), i < N → ExB a H H0 → H0 D = none → ExB a H0 H1 → EG K (D :: b) a (f + c) f te ((wipe σ [i0]).set i0 (some (.int (i : Nat)))) H1 (R i)) :
    EG K b a (m + N * c) m (tLc (iRng1 (tCons ta tNil)) (gName i0) tYes te [i0]) σ H (fun d => ∃ ds, d = .list ds ∧ ds.length = N ∧ ∀ i x, ds[i]? = some x → R i x) := fun H1 x1 kn bg Q q =>
  hcount H1 x1 kn H1 (Ex.refl H1) _ fun v H2 x2 hv => by
    have e := dq_int hv
    subst e
    have hsl : sizeLine = 16777216 := sizeLine_eq
    have kn2 := kn.up x2
    have bg2 := bg.ex x2
    refine ⟨(N : Nat), rfl, by omega, by omega, fun D hD => ?_⟩
    rw [show ((N : Nat) : Int).toNat = N from rfl]
    have hDa : D ≠ a := fun z => bg2.there (z ▸ hD)
    refine lc_range (Pv := fun i H3 => ExB a H2 H3 ∧ Kn (D :: b) H3 ∧ Bag a (m + (N - i) * c) H3 ∧ ∃ acc ds, H3 D = some (.lst acc) ∧ DqAll K (D :: b) H3 acc ds ∧ ds.length = i ∧ ∀ j x, ds[j]? = some x → R j x) ?_ ?_ ?_
    · refine ⟨exb (Ex.new hD), fun z hz => ?_, ?_, [], [], upd_same, .nil, rfl, fun j x h => by simp at h⟩
      · rcases List.mem_cons.mp hz with rfl | hz
        · rw [upd_same]; intro q; cases q
        · rw [upd_ne (fun z' : z = D => kn2.new hD (by rw [← z']; exact hz))]
          exact kn2 z hz
      · rw [Nat.sub_zero]
        exact bg2.ex (Ex.new hD)
    · intro i H3 hi ⟨x3, k3, b3, acc, ds, hd3, hacc, hlen, hR⟩
      refine ⟨wipe_set1, ?_⟩
      refine et_yes (H := H3) _ (Ex.refl _) _ fun H4 x4 => ?_
      rw [if_pos rfl]
      have eN : N - i = (N - (i + 1)) + 1 := by omega
      have bb : Bag a ((m + (N - (i + 1)) * c) + c) H4 := (b3.ex x4).le (by rw [eN, Nat.add_mul]; omega)
      rw [show (0 + (i : Int)) = ((i : Nat) : Int) from Int.zero_add _]
      refine he D i (m + (N - (i + 1)) * c) H2 H4 hi (x1.trans (exb x2)) hD (x3.trans (exb x4)) H4 (ExB.refl a H4) (k3.up x4) bb _ fun y d H5 x5 b5 hy r => ?_
      have hd5 : H5 D = some (.lst acc) := x5 _ _ hDa (x4 _ _ hd3)
      have hm : a ∈ D :: b := List.mem_cons_of_mem _ ha
      refine ⟨acc, hd5, ?_, ?_, ?_, ?_, acc ++ [y], ds ++ [d], upd_same, ?_, ?_, ?_⟩
      · rw [dps_len hacc]; omega
      · intro z o hz h
        by_cases e : z = D
        · subst e; rw [hD] at h; cases h
        · rw [upd_ne e]
          exact x5 _ _ hz (x4 _ _ (x3 _ _ hz h))
      · intro z hz
        by_cases e : z = D
        · subst e; rw [upd_same]; intro q; cases q
        · rw [upd_ne e]
          exact x5.kn (k3.up x4) b5 z hz
      · obtain ⟨g, x, cc, h1, r'⟩ := b5
        exact ⟨g, x, cc, by rw [upd_ne (Ne.symm hDa)]; exact h1, r'⟩
      · exact dps_ex put_ex _ _ (dps_app (DqAll.upB hm (DqAll.up hacc x4) x5) (.cons hy .nil))
      · rw [List.length_append, hlen]; rfl
      · intro j x hj
        by_cases hjl : j < ds.length
        · rw [List.getElem?_append_left hjl] at hj
          exact hR j x hj
        · rw [List.getElem?_append_right (by omega)] at hj
          have : j - ds.length = 0 := by
            by_cases hz : j - ds.length = 0
            · exact hz
            · rw [List.getElem?_eq_none (by rw [List.length_singleton]; omega)] at hj
              cases hj
          rw [this] at hj
          have ex : d = x := Option.some.inj hj
          have ej : j = i := by omega
          rw [ej, ← ex]
          exact r
    · intro H3 ⟨x3, k3, b3, acc, ds, hd3, hacc, hlen, hR⟩
      rw [Nat.sub_self, Nat.zero_mul, Nat.add_zero] at b3
      refine q _ (.list ds) H3 ((exb x2).trans x3) b3 (.lst (.inl (.inl ?_)) (dps_ex show_ex _ _ hacc)) ⟨ds, rfl, hlen, hR⟩
      rw [hid_ne (kn2.new hD)]
      exact hd3
end
end Wr

set_option Elab.async false
set_option linter.all false
set_option maxRecDepth 100000
set_option maxHeartbeats 4000000
namespace Wr
open PySem PySem.Spec PyProof.Rows L2 Evl
abbrev s_prog3 : Stmt := topS 47
abbrev NP3 : List Str := ["_law_bag_here", "_law_great", "_law_called", "_law_names_here", "_law_found", "_law_name", "_law_many", "_law_rows", "_law_at"]
theorem sc_prog3 : FnScope NP3 ["_law_bag_here"] (defScope s_prog3) := ⟨rfl, rfl, rfl, by decide +kernel, rfl, by decide +kernel, by decide +kernel⟩
def PartP (xs : List Str) (x : Str) (p : PyData) : Prop := ∃ ns rs, p = .tuple [.str x, .tuple ns, .tuple rs] ∧ namesD (.tuple ns) = true ∧ rowsD (.tuple rs) xs = true ∧ okL 60 3 p = true ∧ szD p ≤ 120600
def ProgP (d : PyData) : Prop := progD d = true ∧ okL 60 4 d = true ∧ szD d ≤ 1000000
theorem cut0 (ys : List PyData) {i : Int} (h0 : 0 ≤ i) : cutD ys none (some i) = ys.take i.toNat := by
  unfold cutD
  rw [HT.sIx_none, List.drop_zero, Nat.sub_zero]
  have e : i = ((i.toNat : Nat) : Int) := (Int.toNat_of_nonneg h0).symm
  have e2 : HT.sIx ys.length ys.length (some i) = min i.toNat ys.length := by
    rw [e]
    exact HT.sIx_nat ys.length ys.length i.toNat
  rw [e2]
  by_cases h : i.toNat ≤ ys.length
  · rw [Nat.min_eq_left h]
  · rw [Nat.min_eq_right (by omega), List.take_of_length_le (Nat.le_refl _), List.take_of_length_le (by omega)]
theorem rows_of {rs : List PyData} {xs : List Str} {N : Nat} (hl : rs.length = N) (h1 : 1 ≤ N) (h2 : N ≤ 60) (hR : ∀ (i : Nat) (x : PyData), rs[i]? = some x → RowP i N xs x) : rowsD (.tuple rs) xs = true ∧ okL 60 2 (.tuple rs) = true ∧ szD (.tuple rs) ≤ 120123 := by
  have mem : ∀ d ∈ rs, ∃ i : Nat, RowP i N xs d := fun d hd => by
    obtain ⟨i, hi, e⟩ := List.mem_iff_getElem.mp hd
    exact ⟨i, hR i d (by rw [List.getElem?_eq_getElem hi, e])⟩
  refine ⟨?_, okL_tup (by omega) fun d hd => (mem d hd).elim fun i p => p.2.1, ?_⟩
  · show ((decide (1 ≤ rs.length) && decide (rs.length ≤ 60)) && ((List.range rs.length).all fun i => rowD (rs.getD i .none) i rs.length xs)) = true
    rw [hl, decide_eq_true h1, decide_eq_true h2]
    simp only [Bool.true_and]
    rw [List.all_eq_true]
    intro i hi
    have hi' : i < rs.length := by rw [hl]; exact List.mem_range.mp hi
    have := (hR i rs[i] (List.getElem?_eq_getElem hi')).1
    rw [List.getD_eq_getElem?_getD, List.getElem?_eq_getElem hi', Option.getD_some]
    exact this
  · rw [szD_tup]
    have := szAll_le (c := 2000) (xs := rs) fun d hd => (mem d hd).elim fun i p => p.2.2
    rw [hl] at this
    have h3 : N * (2000 + 2) ≤ 60 * 2002 := Nat.mul_le_mul_right _ h2
    omega
theorem part_of {x : Str} {ys xs : List Str} {rs : List PyData} {j : Nat} (hx : nameS x = true) (hy : ys.all nameS = true) (hn : ys.Nodup) (hj : j ≤ 3) (hr : rowsD (.tuple rs) xs = true ∧ okL 60 2 (.tuple rs) = true ∧ szD (.tuple rs) ≤ 120123) :
    PartP xs x (.tuple [.str x, .tuple ((ys.map PyData.str).take j), .tuple rs]) := by
  rw [← List.map_take]
  have hlen : (ys.take j).length ≤ 3 := by
    rw [List.length_take]
    omega
  have hall : ∀ y ∈ ys.take j, nameS y = true := fun y h => List.all_eq_true.mp hy y (List.mem_of_mem_take h)
  have hnd : (ys.take j).Nodup := hn.sublist (List.take_sublist _ _)
  generalize ys.take j = zs at hlen hall hnd
  have okz : okL 60 1 (.tuple (zs.map .str)) = true := okL_tup (by rw [List.length_map]; omega) fun d hd => by
    obtain ⟨y, h, rfl⟩ := List.mem_map.mp hd
    exact okL_str (name_strOk (hall y h)) (by have := name_len (hall y h); omega)
  have szz : szD (.tuple (zs.map .str)) ≤ 300 := by
    rw [szD_tup]
    have := szAll_le (c := 82) (xs := zs.map PyData.str) fun d hd => by
      obtain ⟨y, h, rfl⟩ := List.mem_map.mp hd
      rw [szD_str]
      have := name_len (hall y h)
      omega
    rw [List.length_map] at this
    have h3 : zs.length * (82 + 2) ≤ 3 * 84 := Nat.mul_le_mul_right _ hlen
    omega
  refine ⟨_, _, rfl, ?_, hr.1, ?_, ?_⟩
  · show (decide ((zs.map PyData.str).length ≤ 3) && ((zs.map PyData.str).all nameD && unlikeS (strsOf (zs.map .str)))) = true
    rw [List.length_map, decide_eq_true hlen, strsOf_map]
    have e1 : (zs.map PyData.str).all nameD = true := List.all_eq_true.mpr fun d hd => by
      obtain ⟨y, h, rfl⟩ := List.mem_map.mp hd
      exact hall y h
    rw [e1]
    unfold unlikeS
    rw [decide_eq_true ((uq_len_iff zs).mpr hnd)]
    rfl
  · refine okL_tup (by show 3 ≤ 60; decide) fun d hd => ?_
    simp only [List.mem_cons, List.not_mem_nil, or_false] at hd
    rcases hd with rfl | rfl | rfl
    · exact okL_str (name_strOk hx) (by have := name_len hx; omega)
    · exact okL_up (Nat.le_refl _) 1 2 _ (by decide) okz
    · exact hr.2.1
  · rw [szD_tup]
    simp only [szAll]
    have h1 : szD (.str x) ≤ 82 := by
      rw [szD_str]
      have := name_len hx
      omega
    have h2 := hr.2.2
    omega
theorem prog_of {ds : List PyData} {xs : List Str} (hl : ds.length = xs.length) (h1 : 1 ≤ xs.length) (h8 : xs.length ≤ 8) (hx : xs.all nameS = true) (hn : xs.Nodup) (hP : ∀ (j : Nat) (p : PyData), ds[j]? = some p → ∃ x, xs[j]? = some x ∧ PartP xs x p) : ProgP (.tuple ds) := by
  have mem : ∀ d ∈ ds, ∃ x ∈ xs, PartP xs x d := fun d hd => by
    obtain ⟨i, hi, e⟩ := List.mem_iff_getElem.mp hd
    obtain ⟨x, h1, h2⟩ := hP i d (by rw [List.getElem?_eq_getElem hi, e])
    exact ⟨x, List.mem_of_getElem? h1, h2⟩
  have hf : ds.map fst = xs.map .str := by
    apply List.ext_getElem?
    intro i
    rw [List.getElem?_map, List.getElem?_map]
    by_cases hi : i < ds.length
    · obtain ⟨x, g1, ns, rs, e, _⟩ := hP i ds[i] (List.getElem?_eq_getElem hi)
      rw [List.getElem?_eq_getElem hi, g1, e]
      rfl
    · rw [List.getElem?_eq_none (by omega), List.getElem?_eq_none (by omega)]
      rfl
  refine ⟨?_, okL_tup (by omega) fun d hd => (mem d hd).elim fun x p => ?_, ?_⟩
  · rw [prog_two, hf, strsOf_map, hl, decide_eq_true (show 1 ≤ xs.length ∧ xs.length < 9 by omega)]
    have e1 : ds.all headed2D = true := List.all_eq_true.mpr fun d hd => by
      obtain ⟨x, hm, ns, rs, rfl, _⟩ := mem d hd
      exact List.all_eq_true.mp hx x hm
    have e2 : (ds.all fun p => partD p xs) = true := List.all_eq_true.mpr fun d hd => by
      obtain ⟨x, hm, ns, rs, rfl, h3, h4, _⟩ := mem d hd
      show (namesD (.tuple ns) && rowsD (.tuple rs) xs) = true
      rw [h3, h4]
      rfl
    have e3 : unlikeS xs = true := decide_eq_true ((uq_len_iff xs).mpr hn)
    rw [e1, e2, e3]
    rfl
  · obtain ⟨_, ns, rs, rfl, _, _, h5, _⟩ := p
    exact h5
  · rw [szD_tup]
    have := szAll_le (c := 120600) (xs := ds) fun d hd => by
      obtain ⟨x, hm, ns, rs, rfl, _, _, _, h6⟩ := mem d hd
      exact h6
    rw [hl] at this
    have h3 : xs.length * (120600 + 2) ≤ 8 * 120602 := Nat.mul_le_mul_right _ h8
    omega
section
variable {K : PySem.W.Frag} {b : List Addr} {a : Addr} {n m k : Nat} {σ : L2.St} {H H' : Hp} {ta te : TE} {ts : TS} {D : Ends}
theorem g_setG {i : Nat} {P1 : PyData → Prop} (h : EG K b a n k te σ H P1) (kn : Kn b H) (bg : Bag a n H) (kk : ∀ v d H', ExB a H H' → Bag a k H' → Kn b H' → Dq K b H' v d → P1 d → ts D (σ.set i (some v)) H') : tSeq (tAsg te (gName i)) ts D σ H :=
  h H (ExB.refl a H) kn bg _ fun v d H' x bg' hv p => kk v d H' x bg' (x.kn kn bg') hv p
/-- a number drawn, or a written one -/
theorem eg_pick {c : Bool} {u w : Int} {te : TE} (ha : a ∈ b) (hb : σ[0]? = some (some (.ref a))) (h0 : 0 < u) (h1 : u < 1073741824) (ht : ∀ H1, ExB a H H1 → Kn b H1 → ED K b te σ H1 (.bool c)) :
    EG K b a (n + 1) n (tOp (rIxL K) (tLst (tCons (tOp (rI0 fun i j => .int (i + j)) (tC (.int 1)) (tCall (spTake K) [] E0 (tCons (tVar 0) (tCons (tC (.int u)) tNil)))) (tCons (tC (.int w)) tNil))) (tCB rInt1 (tCons te tNil))) σ H (fun d => ∃ r, d = .int r ∧ ((1 ≤ r ∧ r ≤ u) ∨ r = w)) :=
  eg_ixL ha (eg_lst (P := fun d => ∃ r, d = .list [.int r, .int w] ∧ 1 ≤ r ∧ r ≤ u) (ega_cons (P := fun d => ∃ r, d = .int r ∧ 1 ≤ r ∧ r ≤ u) ha (eg_I0 ha (eg_pure (P := (· = .int 1)) (fun _ _ _ => ed_int) rfl) (eg_take ha hb h0 h1) (fun d e hd ⟨r, er, r0, r1⟩ => ⟨1, r, hd, er, 1 + r, rfl, by omega, by omega⟩)) (ega_cons (P := (· = .int w)) ha (eg_pure (fun _ _ _ => ed_int) rfl) ega_nil)) (fun ds ⟨d, r', e, ⟨r, er, r0, r1⟩, d', r'', e', p', e''⟩ => by
      subst e e' er p' e''
      exact ⟨by show 2 ≤ sizeLine; decide, r, rfl, r0, r1⟩)) (eg_pure (P := (· = .int (if c then 1 else 0))) (fun H1 x1 kn1 => ed_intB (ht H1 x1 kn1)) rfl) (fun d e ⟨r, er, r0, r1⟩ he => by
      subst er he
      cases c with
      | false => exact ⟨_, 0, .int r, rfl, rfl, rfl, r, rfl, .inl ⟨r0, r1⟩⟩
      | true => exact ⟨_, 1, .int w, rfl, rfl, rfl, w, rfl, .inr rfl⟩)
end
section
variable {P : Program} {w : World} {K : PySem.W.Frag} {mg : Str → Option Value} {base : Heap} {f g g2 g3 g4 : Addr} {fd gd gd2 gd3 gd4 : FuncData}
theorem ok_prog3 (D : Def K mg "_law_any_program" s_prog3 ["_law_bag_here"] f fd) (D1 : Def K mg "_law_take" s_take ["_law_bag_here", "_law_many"] g gd) (D2 : Def K mg "_law_names" s_names2 ["_law_bag_here", "_law_many"] g2 gd2)
    (D3 : Def K mg "_law_any_row" s_row3 ["_law_bag_here", "_law_at", "_law_many", "_law_called", "_law_names_here"] g3 gd3) (D4 : Def K mg "_law_worth" s_worth2 ["_law_bag_here"] g4 gd4) (B : Blt mg) :
    FnOk P w K mg base CX0 4 f fd ["_law_bag_here"] (spG K 2000 (· = []) fun _ d => ProgP d) := by
  refine D.F.ok sc_prog3 (fun vs H Q E h => spG_len (fun ds e => by rw [e]; rfl) h) (fun cdv A outer s H vs Q E hr h => ?_)
  obtain ⟨b, a, k, ws, ds, rfl, hab, kn, bg, hd, rfl, q⟩ := h
  cases hd
  have G1 := ok_take (P := P) (w := w) (base := base) D1
  have G2 := ok_names2 (P := P) (w := w) (base := base) D2 D1 B
  have G3 := ok_row3 (P := P) (w := w) (base := base) D3 D1 D4 B
  have hr1 : Room 1 _ := hr.mono (by decide)
  have hr2 : Room 2 _ := hr.mono (by decide)
  refine ⟨_, pss_cons (ps_set (i := 1) sc_prog3.nd rfl (Or.inl rfl) (pe_cd D1 G1 hr1 (pa_cons (pv 0) (pa_cons pe_int pa_nil))))
    (pss_cons (ps_set (i := 2) sc_prog3.nd rfl (Or.inr rfl) (pe_cd D2 G2 hr2 (pa_cons (pv 0) (pa_cons (pe_ix ix_list (pe_lst (pa_cons (pe_op op_add pe_int (pe_cd D1 G1 hr1 (pa_cons (pv 0) (pa_cons pe_int pa_nil)))) (pa_cons pe_int pa_nil)))
      (pe_callTy call_intB rfl B.int bt_int (pa_cons (pe_cmpR (op_eqD (hu64 hr)) (pv 1) pe_int (nomark _)) pa_nil)) (fun _ _ => rfl)) pa_nil))))
    (pss_cons (ps_set (i := 3) sc_prog3.nd rfl (Or.inr rfl) (pe_cd D2 G2 hr2 (pa_cons (pv 0) (pa_cons pe_int pa_nil))))
    (pss_cons (ps_set (i := 4) sc_prog3.nd rfl (Or.inl rfl) (pe_lst pa_nil))
    (pss_cons (ps_for PassesOwn.never rfl (pi_list (pv 2)) (pg_name (i := 5) sc_prog3.nd rfl (Or.inl rfl))
      (pss_cons (ps_set (i := 6) sc_prog3.nd rfl (Or.inr rfl) (pe_ix ix_list (pe_lst (pa_cons (pe_op op_add pe_int (pe_cd D1 G1 hr1 (pa_cons (pv 0) (pa_cons pe_int pa_nil)))) (pa_cons pe_int pa_nil)))
        (pe_callTy call_intB rfl B.int bt_int (pa_cons (pe_cmpR (op_eqD (hu64 hr)) (pv 1) pe_int (nomark _)) pa_nil)) (fun _ _ => rfl)))
      (pss_cons (ps_set (i := 7) sc_prog3.nd rfl (Or.inl rfl) (pe_callTy call_tupF rfl B.tuple bt_tuple (pa_cons
        (pe_lc (own := [("_law_at", 8)]) (g := gName 8) (tt := tYes) rfl sc_prog3.nd (pi_range1 rfl B.range (pa_cons (pv 6) pa_nil)) (blkOk_by (N := NP3) (sc := defScope s_prog3) (by decide +kernel)) (fun _ _ _ _ _ => pg_name (i := 8) sc_prog3.nd rfl (Or.inl rfl)) (fun _ _ _ _ _ => pts_nil)
          (fun _ _ _ _ _ => pe_cd D3 G3 hr (pa_cons (pv 0) (pa_cons (pv 8) (pa_cons (pv 6) (pa_cons (pv 2) (pa_cons (pv 3) pa_nil))))))) pa_nil)))
      (pss_one (ps_expr (pe_bm PySem.F.plainAttrs_list PySem.F.slot_list_append PySem.F.type_list_append mt_append (pv 4) (pa_cons (pe_tupF (pa_cons (pv 5) (pa_cons
        (pe_callTy call_tupF rfl B.tuple bt_tuple (pa_cons (pe_slice sl_list (pv 3) po_none (po_some (pe_cd D1 G1 hr1 (pa_cons (pv 0) (pa_cons pe_int pa_nil))))) pa_nil)) (pa_cons (pv 7) pa_nil)))) pa_nil)))))))
    (pss_one (ps_ret (pe_callTy call_tupF rfl B.tuple bt_tuple (pa_cons (pv 4) pa_nil)))))))), ?_⟩
  have bg0 : Bag a (k + 1942) H := bg.le (by omega)
  refine g_setG (k := k + 1941) (eg_take hab rfl (by decide) (by decide)) kn bg0 fun vg dg H1 x1 b1 kn1 hvg ⟨gr, eg, g0, g1⟩ => ?_
  subst eg
  have tg : ∀ (c : Int) (b' : List Addr) (σ' : L2.St) (H' : Hp), σ'[1]? = some (some vg) → Dq K b' H' vg (.int gr) → ED K b' (tOp (rEqD K) (tVar 1) (tC (.int c))) σ' H' (.bool (gr == c)) := fun c b' σ' H' hs hv => by
    have := ed_eq (K := K) (b := b') (ed_var (i := 1) hs hv) (ed_int (i := c)) (sh_int _) (sh_int _)
    rw [eqv_int] at this
    exact this
  refine g_setG (k := k + 1938) (P1 := fun d => ∃ xs : List Str, d = .list (xs.map .str) ∧ 1 ≤ xs.length ∧ xs.length ≤ 8 ∧ xs.all nameS = true ∧ xs.Nodup) (eg_call (c := 2) hab rfl (ega_cons hab (eg_pick (n := k + 1940) (u := 4) (w := 8) hab rfl (by decide) (by decide) fun H' x' _ => tg 6 b _ H' rfl (Dq.upB hab hvg x')) ega_nil) (fun ds ⟨d, r', e, ⟨r, er, hr'⟩, e'⟩ => ?_) fun ds d ⟨d', r', e, ⟨r, er, hr'⟩, e'⟩ ⟨m, xs, e1, e2, e3, e4, e5⟩ => ?_) kn1 b1 fun vc dc H2 x2 b2 kn2 hvc ⟨xs, ec, xl, x8, xn, xd⟩ => ?_
  · subst e er e'
    exact ⟨r, rfl, by omega, by omega⟩
  · subst e er e'
    injection e1 with e1 _
    injection e1 with e1
    exact ⟨xs, e2, by omega, by omega, e4, e5⟩
  subst ec
  refine g_setG (k := k + 1936) (P1 := fun d => ∃ ys : List Str, d = .list (ys.map .str) ∧ ys.length = 4 ∧ ys.all nameS = true ∧ ys.Nodup) (eg_call (c := 2) hab rfl (ega_cons (P := (· = .int 4)) hab (eg_pure (fun _ _ _ => ed_int) rfl) ega_nil) (fun ds ⟨d, r', e, er, e'⟩ => ?_) fun ds d ⟨d', r', e, er, e'⟩ ⟨m, ys, e1, e2, e3, e4, e5⟩ => ?_) kn2 b2 fun vn dn H3 x3 b3 kn3 hvn ⟨ys, en, yl, yn, yd⟩ => ?_
  · subst e er e'
    exact ⟨4, rfl, by decide, by decide⟩
  · subst e er e'
    injection e1 with e1 _
    injection e1 with e1
    exact ⟨ys, e2, by omega, e4, e5⟩
  subst en
  -- found = []
  refine ⟨Nat.zero_le _, fun F hF => ?_⟩
  have hFa : F ≠ a := fun z => b3.there (z ▸ hF)
  have x4 : Ex H3 (upd H3 F (.lst [])) := Ex.new hF
  have hm : a ∈ F :: b := List.mem_cons_of_mem _ hab
  have cg : Dq K (F :: b) (upd H3 F (.lst [])) vg (.int gr) := (Dq.hide (Dq.upB hab hvg (x2.trans x3)) hF).up x4
  have cc : Dq K (F :: b) (upd H3 F (.lst [])) vc (.list (xs.map .str)) := (Dq.hide (Dq.upB hab hvc x3) hF).up x4
  have cn : Dq K (F :: b) (upd H3 F (.lst [])) vn (.list (ys.map .str)) := (Dq.hide hvn hF).up x4
  have kn4 : Kn (F :: b) (upd H3 F (.lst [])) := fun z hz => by
    rcases List.mem_cons.mp hz with rfl | hz
    · rw [upd_same]; intro q; cases q
    · exact kn3.up x4 z hz
  have b4 : Bag a (k + 1936) (upd H3 F (.lst [])) := b3.ex x4
  have e4 : (upd H3 F (.lst [])) F = some (.lst []) := upd_same
  have hx04 : ExB a H (upd H3 F (.lst [])) := ((x1.trans x2).trans x3).trans (exb x4)
  have hFH : H F = none := by
    cases z : H F with
    | none => rfl
    | some o =>
      rw [((x1.trans x2).trans x3) F o hFa z] at hF
      cases hF
  generalize upd H3 F (.lst []) = H4 at cg cc cn kn4 b4 e4 hx04
  have cc' := cc
  cases cc' with
  | @lst ac vcs _ gc1 gc2 =>
  have evs := dps_strs gc2
  subst evs
  refine ⟨.ref ac, rfl, ac, rfl, ⟨_, ex_l hid_le gc1⟩, ?_⟩
  have grow : ∀ H' : Hp, (∀ c o, c ≠ a → c ≠ F → H4 c = some o → H' c = some o) → Ex (hid (F :: b) H4) (hid (F :: b) H') := fun H' hg c o h => by
    obtain ⟨h1, h2⟩ := hid_some h
    rw [hid_ne h1]
    exact hg c o (fun z => h1 (z ▸ hm)) (fun z => h1 (by rw [z]; exact List.mem_cons_self)) h2
  refine for_list (xs := xs.map V.str) (Pv := fun i σ' H' => (∃ y5 y6 y7, σ' = [some (.ref a), some vg, some (.ref ac), some vn, some (.ref F), y5, y6, y7, none]) ∧ (∀ c o, c ≠ a → c ≠ F → H4 c = some o → H' c = some o) ∧ Kn (F :: b) H' ∧ Bag a (k + (8 - i) * 242) H' ∧
      ∃ acc ds, H' F = some (.lst acc) ∧ DqAll K (F :: b) H' acc ds ∧ ds.length = i ∧ ∀ (j : Nat) (p : PyData), ds[j]? = some p → ∃ x, xs[j]? = some x ∧ PartP xs x p) ?_ ?_ ?_ ?_
  · exact ⟨⟨none, none, none, rfl⟩, fun c o _ _ h => h, kn4, b4.le (by omega), [], [], e4, .nil, rfl, fun j p h => by simp at h⟩
  · intro i σ' H' _ ⟨_, hg, _⟩
    exact ex_l hid_le (ex_l (grow H' hg) gc1)
  · intro i x σ' H' hx ⟨⟨y5, y6, y7, eσ⟩, hg, kn', bg', acc, ds, hacc, hds, hlen, hP⟩
    subst eσ
    have hi : i < xs.length := by
      have := (List.getElem?_eq_some_iff.mp hx).1
      rw [List.length_map] at this
      exact this
    have hxi : xs[i]? = some xs[i] := List.getElem?_eq_getElem hi
    have ex : x = .str xs[i] := by
      rw [List.getElem?_map, hxi] at hx
      exact (Option.some.inj hx).symm
    subst ex
    have hnm : nameS xs[i] = true := List.all_eq_true.mp xn _ (List.getElem_mem hi)
    have ge := grow H' hg
    have cg' : Dq K (F :: b) H' vg (.int gr) := dp_ex ge _ _ cg
    have cc' : Dq K (F :: b) H' (.ref ac) (.list (xs.map .str)) := dp_ex ge _ _ cc
    have cn' : Dq K (F :: b) H' vn (.list (ys.map .str)) := dp_ex ge _ _ cn
    generalize hkk : k + (8 - (i + 1)) * 242 = kk
    have ekk : k + (8 - i) * 242 = kk + 242 := by
      have : 8 - i = (8 - (i + 1)) + 1 := by omega
      rw [← hkk, this, Nat.add_mul]
      omega
    rw [ekk] at bg'
    refine g_setG (n := kk + 242) (k := kk + 241) (eg_pick (n := kk + 241) (u := 12) (w := 60) hm rfl (by decide) (by decide) fun H5 x5 _ => tg 7 (F :: b) _ H5 rfl (Dq.upB hm cg' x5)) kn' bg' fun v6 d6 H5 x5 b5 kn5 hv6 ⟨N, eN, hN⟩ => ?_
    subst eN
    obtain ⟨n, rfl⟩ : ∃ n : Nat, N = (n : Int) := ⟨N.toNat, by omega⟩
    have hn1 : 1 ≤ n := by omega
    have hn60 : n ≤ 60 := by omega
    refine g_setG (n := (kk + 1) + n * 4) (k := kk + 1) (P1 := fun d => ∃ rs, d = .tuple rs ∧ (rowsD (.tuple rs) xs = true ∧ okL 60 2 (.tuple rs) = true ∧ szD (.tuple rs) ≤ 120123)) (eg_tupOf (eg_lcR (i0 := 8) (c := 4) (N := n) (R := fun j d => RowP j n xs d) hm (fun H6 x6 _ => ed_var rfl (Dq.upB hm hv6 x6)) (by omega) fun Dl j fu H6 H7 hj x6 hDl x7 => ?_) ?_) kn5 (b5.le (by omega)) fun v7 d7 H8 x8 b8 kn8 hv7 ⟨rs, er, hrs⟩ => ?_
    · have hm2 : a ∈ Dl :: F :: b := List.mem_cons_of_mem _ hm
      have w8 : Dq K (Dl :: F :: b) H7 (.int (j : Nat)) (.int (j : Nat)) := .int _
      have w6 : Dq K (Dl :: F :: b) H7 v6 (.int (n : Nat)) := Dq.upB hm2 (Dq.hide (Dq.upB hm hv6 x6) hDl) x7
      have wc : Dq K (Dl :: F :: b) H7 (.ref ac) (.list (xs.map .str)) := Dq.upB hm2 (Dq.hide (Dq.upB hm cc' (x5.trans x6)) hDl) x7
      have wn : Dq K (Dl :: F :: b) H7 vn (.list (ys.map .str)) := Dq.upB hm2 (Dq.hide (Dq.upB hm cn' (x5.trans x6)) hDl) x7
      refine eg_call (c := 4) hm2 rfl (ega_cons (P := (· = .int (j : Nat))) hm2 (eg_var rfl hm2 w8 rfl) (ega_cons (P := (· = .int (n : Nat))) hm2 (eg_var rfl hm2 w6 rfl) (ega_cons (P := (· = .list (xs.map .str))) hm2 (eg_var rfl hm2 wc rfl) (ega_cons (P := (· = .list (ys.map .str))) hm2 (eg_var rfl hm2 wn rfl) ega_nil)))) (fun ds' ⟨d1, r1, e1, p1, d2, r2, e2, p2, d3, r3, e3, p3, d4, r4, e4, p4, e5⟩ => ?_) fun ds' d' ⟨d1, r1, e1, p1, d2, r2, e2, p2, d3, r3, e3, p3, d4, r4, e4, p4, e5⟩ ⟨i', m', xs', ys', ee, pp⟩ => ?_
      · subst e1 p1 e2 p2 e3 p3 e4 p4 e5
        exact ⟨_, _, xs, ys, rfl, ⟨by omega, by omega, by omega, xl, x8, xn, by omega, by omega, yn⟩⟩
      · subst e1 p1 e2 p2 e3 p3 e4 p4 e5
        injection ee with q1 q2
        injection q1 with q1
        injection q2 with q2 q3
        injection q2 with q2
        injection q3 with q3 q4
        injection q3 with q3
        have q5 : xs = xs' := by
          have := congrArg strsOf q3
          rw [strsOf_map, strsOf_map] at this
          exact this
        subst q1 q2 q5
        exact pp
    · rintro d ⟨rs, rfl, hl, hR⟩
      exact ⟨rs, rfl, rs, rfl, rows_of hl hn1 hn60 hR⟩
    subst er
    -- found.append(..)
    have hacc8 : H8 F = some (.lst acc) := x8 _ _ hFa (x5 _ _ hFa hacc)
    refine ⟨.ref F, rfl, .inl ⟨rfl, _, .inl (.inl hacc8)⟩, ?_⟩
    have cn8 : Dq K (F :: b) H8 vn (.list (ys.map .str)) := Dq.upB hm cn' (x5.trans x8)
    have et : EG K (F :: b) a (kk + 1) kk (tTupF (tCons (tVar 5) (tCons (tCB (rTupOf K) (tCons (tSl (rSlL K) (tVar 3) tNoPart (tPart (tCall (spTake K) [] E0 (tCons (tVar 0) (tCons (tC (.int 4)) tNil))))) tNil)) (tCons (tVar 7) tNil)))) [some (.ref a), some vg, some (.ref ac), some vn, some (.ref F), some (.str xs[i]), some v6, some v7, none] H8 (PartP xs xs[i]) := by
      refine eg_tup (ega_cons (P := (· = .str xs[i])) hm (eg_pure (fun H' _ _ => ed_var (i := 5) rfl (.str _)) rfl) (ega_cons (P := fun d => ∃ j, j ≤ 3 ∧ d = .tuple ((ys.map PyData.str).take j)) hm (eg_tupOf (eg_slL (P := fun d => ∃ j, j ≤ 3 ∧ d = .list ((ys.map PyData.str).take j)) hm (eg_var (P := (· = .list (ys.map .str))) (i := 3) rfl hm cn8 rfl) (eg_take (n := kk) hm rfl (by decide) (by decide)) fun d e hd ⟨r, er, r0, r1⟩ => ?_) fun d ⟨j, hj, ed⟩ => ⟨_, ed, j, hj, rfl⟩) (ega_cons (P := (· = .tuple rs)) hm (eg_var (i := 7) rfl hm hv7 rfl) ega_nil))) fun ds' ⟨d1, r1, e1, p1, d2, r2, e2, ⟨j, hj, p2⟩, d3, r3, e3, p3, e4⟩ => ?_
      · subst hd er
        exact ⟨_, r, rfl, rfl, r.toNat, by omega, by rw [cut0 _ r0]⟩
      · subst e1 p1 e2 p2 e3 p3 e4
        exact ⟨by show 3 ≤ sizeLine; decide, part_of hnm yn yd hj hrs⟩
    refine et H8 (ExB.refl a H8) kn8 b8 _ fun vp dp H9 x9 b9 hvp hpp => ?_
    have hacc9 : H9 F = some (.lst acc) := x9 _ _ hFa hacc8
    have hsl : sizeLine = 16777216 := sizeLine_eq
    refine ⟨F, acc, vp, rfl, rfl, hacc9, by rw [dps_len hds]; omega, ⟨some (.str xs[i]), some v6, some v7, rfl⟩, fun c o h1 h2 h3 => ?_, fun z hz => ?_, ?_, acc ++ [vp], ds ++ [dp], upd_same, ?_, ?_, ?_⟩
    · rw [upd_ne h2]
      exact x9 _ _ h1 (x8 _ _ h1 (x5 _ _ h1 (hg c o h1 h2 h3)))
    · by_cases e : z = F
      · subst e; rw [upd_same]; intro q; cases q
      · rw [upd_ne e]
        exact x9.kn kn8 b9 z hz
    · obtain ⟨gq, xq, cq, h1, r'⟩ := b9
      exact ⟨gq, xq, cq, by rw [upd_ne (Ne.symm hFa)]; exact h1, r'⟩
    · exact dps_ex put_ex _ _ (dps_app (DqAll.upB hm hds ((x5.trans x8).trans x9)) (.cons hvp .nil))
    · rw [List.length_append, hlen]; rfl
    · intro j p hj
      by_cases hjl : j < ds.length
      · rw [List.getElem?_append_left hjl] at hj
        exact hP j p hj
      · rw [List.getElem?_append_right (by omega)] at hj
        have : j - ds.length = 0 := by
          by_cases hz : j - ds.length = 0
          · exact hz
          · rw [List.getElem?_eq_none (by rw [List.length_singleton]; omega)] at hj
            cases hj
        rw [this] at hj
        have ed : dp = p := Option.some.inj hj
        have ej : j = i := by omega
        subst ej ed
        exact ⟨_, hxi, hpp⟩
  · intro σ' H' ⟨⟨y5, y6, y7, eσ⟩, hg, kn', bg', acc, ds, hacc, hds, hlen, hP⟩
    subst eσ
    rw [List.length_map] at hlen bg'
    have knb : Kn b H' := fun z hz => kn' z (List.mem_cons_of_mem _ hz)
    refine ⟨.ref F, rfl, F, acc, rfl, .inl (.inl hacc), fun l o hl ho => ?_⟩
    refine q _ (.tuple ds) _ (fun c u hc h => ?_) ((bg'.le (by omega)).ex (Ex.new hl)) (dq_newT knb hl ho (dps_ex show_ex _ _ hds)) (prog_of hlen xl x8 xn xd hP)
    have hcF : c ≠ F := fun z => by rw [z, hFH] at h; cases h
    exact Ex.new hl _ _ (hg c u hc hcF (hx04 c u hc h))
end
end Wr

set_option Elab.async false
set_option linter.all false
set_option maxRecDepth 100000
set_option maxHeartbeats 4000000
namespace Wr
open PySem PySem.Spec PyProof.Rows L2 Evl
structure Blt2 (mg : Str → Option Value) : Prop where
  abs : mg "abs" = none
  max : mg "max" = none
  min : mg "min" = none
  repr : mg "repr" = none
abbrev s_bag : Stmt := topS 42
abbrev NB : List Str := ["_law_script", "_law_at", "_law_cell", "_law_great"]
theorem sc_bag : FnScope NB ["_law_script", "_law_at"] (defScope s_bag) := ⟨rfl, rfl, rfl, by decide +kernel, rfl, by decide +kernel, by decide +kernel⟩
/-- a new bag, out of the script and a place -/
def spBag (K : PySem.W.Frag) : Sp := fun vs H Q _ => ∃ (b : List Addr) (ns : List Int) (k : Int), Kn b H ∧ DqAll K b H vs [.list (ns.map PyData.int), .int k] ∧ 0 ≤ k ∧ k < 100 ∧ ∀ p H', H p = none → Ex H H' → Bag p 1000000 H' → Q (.ref p) H'
def rAbs : List V → Hp → VK → Prop := fun xs H Q => ∃ i, xs = [.int i] ∧ Q (.int (if i < 0 then -i else i)) H
theorem call_absB {X : Cx} : CallR X (.builtin "abs") rAbs := call_abs
section
variable {K : PySem.W.Frag} {b : List Addr} {σ : L2.St} {H H' : Hp} {ta tb te : TE} {t : TA} {ds es : List PyData} {D : Ends} {ts : TS}
theorem ed_abs {i : Int} (ha : ED K b ta σ H (.int i)) : ED K b (tCB rAbs (tCons ta tNil)) σ H (.int (if i < 0 then -i else i)) := fun H1 x1 Q q =>
  ha H1 x1 _ fun v H2 x2 hv => ⟨i, by rw [dq_int hv], q _ H2 x2 (.int _)⟩
/-- x = [..], the list known -/
theorem g_lst {i : Nat} (kn : Kn b H) (hd : EA K b t σ H ds) (hl : ds.length ≤ sizeLine) (k : ∀ p vs H', H p = none → Ex H H' → H' p = some (.lst vs) → DqAll K b H' vs ds → ts D (σ.set i (some (.ref p))) H') : tSeq (tAsg (tLst t) (gName i)) ts D σ H :=
  hd H (Ex.refl H) _ fun vs H1 x1 hv => ⟨by rw [dps_len hv]; exact hl, fun p hp => k p vs _ (by
    cases q : H p with
    | none => rfl
    | some o => rw [x1 _ _ q] at hp; cases hp) (x1.trans (Ex.new hp)) upd_same (DqAll.up hv (Ex.new hp))⟩
/-- x = x + [..], both lists known -/
theorem g_cat {i : Nat} {p : Addr} {vs : List V} (kn : Kn b H) (hs : σ[i]? = some (some (.ref p))) (hp : H p = some (.lst vs)) (hv : DqAll K b H vs ds) (he : EA K b t σ H es) (hl : ds.length + es.length ≤ sizeLine) (k : ∀ p' us H', H p' = none → Ex H H' → H' p' = some (.lst us) → DqAll K b H' us (ds ++ es) → ts D (σ.set i (some (.ref p'))) H') : tSeq (tAsg (tOp rCat (tVar i) (tLst t)) (gName i)) ts D σ H :=
  ⟨.ref p, hs, he H (Ex.refl H) _ fun ws H1 x1 hw => ⟨by rw [dps_len hw]; omega, fun p1 hp1 => ⟨p, p1, vs, ws, rfl, rfl, Ex.new hp1 _ _ (x1 _ _ hp), upd_same, by rw [dps_len hv, dps_len hw]; exact hl, fun p2 hp2 => by
    have x2 := (Ex.new (o := HO.lst ws) hp1).trans (Ex.new (o := HO.lst (vs ++ ws)) hp2)
    refine k p2 (vs ++ ws) _ ?_ (x1.trans x2) upd_same (DqAll.up (dps_app (DqAll.up hv x1) hw) x2)
    cases q : H p2 with
    | none => rfl
    | some o => rw [Ex.new hp1 _ _ (x1 _ _ q)] at hp2; cases hp2⟩⟩⟩
end
section
variable {P : Program} {w : World} {K : PySem.W.Frag} {mg : Str → Option Value} {base : Heap} {f g g2 : Addr} {fd gd gd2 : FuncData}
theorem ok_bag (D : Def K mg "_law_bag" s_bag ["_law_script", "_law_at"] f fd) (B : Blt mg) (B2 : Blt2 mg) : FnOk P w K mg base CX0 1 f fd ["_law_script", "_law_at"] (spBag K) := by
  refine D.F.ok sc_bag (fun vs H Q E ⟨b, ns, k, _, hd, _⟩ => by rw [dps_len hd]; rfl) (fun cdv A outer s H vs Q E hr h => ?_)
  obtain ⟨b, ns, k, kn, hd, k0, k1, q⟩ := h
  obtain ⟨v, v2, d, d2, rfl, ed, h1, h2⟩ := two_of hd rfl
  cases ed
  have e2 := dq_int h2
  subst e2
  refine ⟨_, pss_cons (ps_set (i := 2) sc_bag.nd rfl (Or.inl rfl) pe_int)
    (pss_cons (ps_if (pt_cmpR op_lt (pv 1) (pe_callB call_lenD1 rfl B.len bb_len (pa_cons (pv 0) pa_nil)) (nomark _)) (pss_one (ps_set (i := 2) sc_bag.nd rfl (Or.inl rfl) (pe_ix ix_list (pv 0) (pv 1) (fun _ _ => rfl)))) pss_nil)
    (pss_cons (ps_set (i := 3) sc_bag.nd rfl (Or.inl rfl) (pe_callB call_absB rfl B2.abs bb_abs (pa_cons (pv 2) pa_nil)))
    (pss_cons (ps_if (pt_cmpR op_lt (pv 3) (pe_op op_pow pe_int pe_int) (nomark _)) (pss_one (ps_set (i := 3) sc_bag.nd rfl (Or.inl rfl) pe_int)) pss_nil)
    (pss_one (ps_ret (pe_lst (pa_cons (pv 3) (pa_cons (pe_op op_add (pe_op op_add (pe_op op_mod (pv 2) pe_int) (pe_op op_mul pe_int (pv 1))) pe_int) (pa_cons pe_int pa_nil))))))))), ?_⟩
  have gt : ∀ (c : Int) (H1 : Hp), Ex H H1 → ∀ gg : Int, 0 ≤ gg → tRet (tLst (tCons (tVar 3) (tCons (tOp (rI0 fun i j => .int (i + j)) (tOp (rI0 fun i j => .int (i + j)) (tOp (rI (fun _ j => 0 < j) fun i j => .int (i % j)) (tVar 2) (tC (.int 1000000000000000003))) (tOp (rI CMul fun i j => .int (i * j)) (tC (.int 104729)) (tVar 1))) (tC (.int 17))) (tCons (tC (.int 0)) tNil)))) { nx := fun _ H' => Q .non H', rt := Q } [some v, some (.int k), some (.int c), some (.int gg)] H1 := fun c H1 x1 gg hg => by
    have m0 := Int.emod_nonneg c (show (1000000000000000003 : Int) ≠ 0 by decide)
    have m1 := Int.emod_lt_of_pos c (show (0 : Int) < 1000000000000000003 by decide)
    unfold tRet tLst
    refine (ea_cons (K := K) (b := b) (σ := [some v, some (.int k), some (.int c), some (.int gg)]) (ed_var (i := 3) (d := .int gg) rfl (.int gg)) (ea_cons (ed_add (ed_add (ed_mod (ed_var (i := 2) (d := .int c) rfl (.int c)) (ed_int (i := 1000000000000000003)) (by decide)) (ed_mul (ed_int (i := 104729)) (ed_var (i := 1) (d := .int k) rfl (.int k)) (.inl (by decide)))) (ed_int (i := 17))) (ea_cons (ed_int (i := 0)) ea_nil))) H1 (Ex.refl H1) _ fun us H2 x2 hu => ?_
    cases hu with
    | cons a1 hu =>
    cases hu with
    | cons a2 hu =>
    cases hu with
    | cons a3 hu =>
    cases hu
    have e1 := dq_int a1
    have e2 := dq_int a2
    have e3 := dq_int a3
    subst e1 e2 e3
    refine ⟨by show 3 ≤ sizeLine; decide, fun p hp => q p _ ?_ ((x1.trans x2).trans (Ex.new hp)) ⟨gg, _, 0, upd_same, hg, by omega, by omega, by omega, by omega⟩⟩
    cases z : H p with
    | none => rfl
    | some o => rw [(x1.trans x2) _ _ z] at hp; cases hp
  have pw : ∀ {σ'} {H'}, ED K b (tOp (rI CPow fun i j => .int (i ^ j.toNat)) (tC (.int 10)) (tC (.int 18))) σ' H' (.int 1000000000000000000) := fun {_ _} => ed_I ed_int ed_int ⟨by decide, by decide, by decide⟩ fun _ => .int _
  have rest : ∀ (c : Int) (H1 : Hp), Ex H H1 → tSeq (tAsg (tCB rAbs (tCons (tVar 2) tNil)) (gName 3)) (tSeq (tIfS (tTest (tOp (rI0 fun i j => .bl (decide (i < j))) (tVar 3) (tOp (rI CPow fun i j => .int (i ^ j.toNat)) (tC (.int 10)) (tC (.int 18))))) (tAsg (tC (.int 0)) (gName 3)) tNext)
      (tRet (tLst (tCons (tVar 3) (tCons (tOp (rI0 fun i j => .int (i + j)) (tOp (rI0 fun i j => .int (i + j)) (tOp (rI (fun _ j => 0 < j) fun i j => .int (i % j)) (tVar 2) (tC (.int 1000000000000000003))) (tOp (rI CMul fun i j => .int (i * j)) (tC (.int 104729)) (tVar 1))) (tC (.int 17))) (tCons (tC (.int 0)) tNil))))))
      { nx := fun _ H' => Q .non H', rt := Q } [some v, some (.int k), some (.int c), none] H1 := fun c H1 x1 => by
    refine g_set (ed_abs (K := K) (b := b) (ed_var (i := 2) (d := .int c) rfl (.int c))) fun v3 H2 x2 hv3 => ?_
    have e3 := dq_int hv3
    subst e3
    have h0 : (0 : Int) ≤ (if c < 0 then -c else c) := by split <;> omega
    generalize (if c < 0 then -c else c) = gg at h0
    refine (et_t (ed_lt (K := K) (b := b) (ed_var (i := 3) (d := .int gg) rfl (.int gg)) pw)) H2 (Ex.refl H2) _ fun H3 x3 => ?_
    split
    · exact gt c H3 ((x1.trans x2).trans x3) 0 (Int.le_refl 0)
    · exact gt c H3 ((x1.trans x2).trans x3) gg h0
  have hl := ed_len (K := K) (b := b) (σ := [some v, some (V.int k), some (.int 0), none]) (H := H) (ed_var (i := 0) rfl h1) (.inr (.inl rfl)) (fun y e => by cases e)
  refine (et_t (ed_lt (K := K) (b := b) (ed_var (i := 1) (d := .int k) rfl (.int k)) hl)) H (Ex.refl H) _ fun H3 x3 => ?_
  split
  · rename_i hc
    have hc' : k < ((lenD (.list (ns.map .int)) : Nat) : Int) := of_decide_eq_true hc
    have hk : k.toNat < ns.length := by
      have : (lenD (.list (ns.map PyData.int))) = ns.length := List.length_map ..
      rw [this] at hc'
      omega
    have hat : atI (ns.map PyData.int) k = some (.int ns[k.toNat]) := by
      have e : ((k.toNat : Nat) : Int) = k := Int.toNat_of_nonneg k0
      have := atI_nat (xs := ns.map PyData.int) (j := k.toNat) (v := .int ns[k.toNat]) (by rw [List.getElem?_map, List.getElem?_eq_getElem hk]; rfl)
      rw [e] at this
      exact this
    refine (ed_ixL (K := K) (b := b) (ed_var (i := 0) rfl (Dq.up h1 x3)) (ed_var (i := 1) (d := .int k) rfl (.int k)) hat) H3 (Ex.refl H3) _ fun v2 H4 x4 hv2 => ?_
    have e2 := dq_int hv2
    subst e2
    exact rest _ H4 (x3.trans x4)
  · exact rest 0 H3 x3
end
end Wr

set_option Elab.async false
set_option linter.all false
set_option maxRecDepth 100000
set_option maxHeartbeats 4000000
namespace Wr
open PySem PySem.Spec PyProof.Rows L2 Evl
/-! ### how long data are when shown -/
theorem str_shown {x : Str} (h : PyData.strOk x = true) : (reprText x).length ≤ 10 * x.length + 2 := by
  refine StrLaws.reprText_len x fun c hc => ?_
  have h' : x.cps.all (· < 0x110000) = true := h
  obtain ⟨i, hi, e⟩ := List.mem_iff_getElem.mp hc
  have h2 := Array.all_eq_true.mp h' i (by simpa using hi)
  have e' : x.cps[i]'(by simpa using hi) = c := by simpa using e
  rw [e'] at h2
  have : (c : Nat) < 0x110000 := of_decide_eq_true h2
  have h3 : (0x110000 : Nat) < 16 ^ 8 := by decide
  omega
theorem all_shown {ds : List PyData} (h : ∀ d ∈ ds, d.shown.length ≤ szD d) : ((PyData.shownAll ds).map (·.length)).sum + 2 * (PyData.shownAll ds).length ≤ szAll ds := by
  induction ds with
  | nil => simp only [PyData.shownAll, szAll, List.map_nil, List.sum_nil, List.length_nil]; omega
  | cons d r ih =>
    have h1 := h d List.mem_cons_self
    have h2 := ih fun e he => h e (List.mem_cons_of_mem _ he)
    simp only [PyData.shownAll, szAll, List.map_cons, List.sum_cons, List.length_cons]
    omega
theorem shown_sz : ∀ (n : Nat) (d : PyData), okD n d = true → d.shown.length ≤ szD d
  | _, .none, _ => by simp only [PyData.shown, szD]; decide
  | _, .bool b, _ => by
    simp only [PyData.shown, szD]
    cases b <;> decide
  | n, .int i, h => by
    have h' : decide (i.natAbs < 10 ^ 45) = true := by cases n <;> exact h
    simp only [PyData.shown, szD]
    exact int_text_len_1921 (log_small (of_decide_eq_true h'))
  | n, .str x, h => by
    have h' : (PyData.strOk x && decide (x.length ≤ 1000)) = true := by cases n <;> exact h
    simp only [PyData.shown, szD]
    exact str_shown (Bool.and_eq_true_iff.mp h').1
  | 0, .list ds, h => by cases h
  | 0, .tuple ds, h => by cases h
  | 0, .dict _, h => by cases h
  | _ + 1, .dict _, h => by cases h
  | n + 1, .list ds, h => by
    have q := all_shown fun d hd => shown_sz n d (ok_itemsL h d hd)
    have q2 := listText_len_le (PyData.shownAll ds)
    simp only [PyData.shown, szD]
    omega
  | n + 1, .tuple ds, h => by
    have q := all_shown fun d hd => shown_sz n d (ok_items h d hd)
    have q2 := tupleText_len_le (PyData.shownAll ds)
    simp only [PyData.shown, szD]
    omega
/-! ### repr, where nothing is being shown -/
def rRepr (K : PySem.W.Frag) : List V → Hp → VK → Prop := fun xs H Q => ∃ x d, xs = [x] ∧ Dp K H x d ∧ okD 30 d = true ∧ szD d ≤ 16000000 ∧ Q (.str d.shown) H
theorem call_reprD {X : Cx} (hg : X.A.guards = some []) (hu : X.A.units + 64 < cLine) : CallR X (.builtin "repr") (rRepr X.K) := by
  intro pins s σ H xs us Q I r ⟨x, d, e, hd, ho, hz, q⟩
  subst e
  obtain ⟨u, rfl, rx⟩ := vals1 r
  obtain ⟨f1, f2, f3⟩ := ok_facts 30 d ho
  have hsl : sizeLine = 16777216 := sizeLine_eq
  have hsz : d.shown.length ≤ sizeLine := by
    have := shown_sz 30 d ho
    omega
  obtain ⟨as, rd⟩ := Dp.reads I d x u hd rx
  cases hd with
  | non =>
    cases rx
    simp only [PyData.shown] at q
    exact PySem.P.repr_of_none ⟨.str _, H, I.tok _, ⟨_, rfl⟩, q⟩
  | bl c =>
    cases rx
    simp only [PyData.shown] at q
    refine PySem.P.repr_of_bool ⟨.str _, H, I.tok _, ⟨_, rfl⟩, ?_⟩
    cases c <;> exact q
  | int i =>
    obtain ⟨t, rfl⟩ := rx
    simp only [PyData.shown] at q
    exact PySem.P.repr_of_int (by simpa [PyData.showable] using f3) ⟨.str _, H, I.tok _, ⟨_, rfl⟩, q⟩
  | str y =>
    obtain ⟨t, rfl⟩ := rx
    simp only [PyData.shown] at q hsz
    exact PySem.P.repr_of_str ⟨.str _, H, I.tok _, ⟨_, rfl⟩, q⟩ hsz
  | lst h1 h2 =>
    cases rx
    exact repr_of_reads' rd f3 (PyData.noDict_hsm (PyData.hasDict_of_canLay _ f1)) hg (by omega) (fun _ _ e => e) (fun h' t tk kp => ⟨.str _, H, I.kept (t' := tk) kp, ⟨_, rfl⟩, q⟩) hsz
  | tup h1 h2 =>
    cases rx
    exact repr_of_reads' rd f3 (PyData.noDict_hsm (PyData.hasDict_of_canLay _ f1)) hg (by omega) (fun _ _ e => e) (fun h' t tk kp => ⟨.str _, H, I.kept (t' := tk) kp, ⟨_, rfl⟩, q⟩) hsz
/-! ### defs that are called where nothing is being shown -/
structure FnG (P : Program) (w : World) (K : PySem.W.Frag) (mg : Str → Option Value) (base : Heap) (k : Nat) (f : Addr) (fd : FuncData) (ps : List Str) (sp : Sp) : Prop where
  len : ∀ vs H Q E, sp vs H Q E → vs.length = ps.length
  go : ∀ (A : Around) (outer : List Env) (s : Shared) (H : Hp) (args : Args) (us : List Value) (vs : List V) (Q : VK) (E : XK), A.guards = some [] → Room k A → Env0 P w K mg base A outer s H → BindsTo s fd args (ps.zip us) → Vals vs us → sp vs H Q E →
    codeAny (model P w) A (.call (.ref f) args) (CR CX0 outer P w H s Q E) s
theorem deeper_guards {A : Around} {env : Env} (h : A.guards = some []) : (A.deeper env).guards = some [] := by
  first
    | exact h
    | simpa [Around.deeper] using h
section
variable {X : Cx} {k : Nat} {f : Addr} {fd : FuncData} {ps : List Str} {sp : Sp} {x : Str} {st : Stmt} {p pos : Pos} {e : Expr} {es : List Expr} {t : TA}
theorem pe_cdG (D : Def X.K X.mg x st ps f fd) (G : FnG X.prog X.w X.K X.mg X.base k f fd ps sp) (hg : X.A.guards = some []) (hr : Room k X.A) (ha : PA X (e :: es) t) (hgl : Gl X x := by rfl) (hdb : (x == ("__debug__" : Str)) = false := by decide)
    (he : starEach (e :: es) X.env = (false, eval e X.env) :: starEach es X.env := by rfl) (hpl : (backTo pos (starEach es X.env)).any (·.1) = false := by rfl) : PE X (.Call (.Name x p) (e :: es) [] pos) (tCall sp [] E0 t) :=
  ⟨fun pins s σ H Q I h => wpAny_Call_Name_kw (ld_glob I hgl D.m (PySem.W.callWith_K (h₀ := X.base) I.ok.mod.kin D.F.kp (thn (ha.run pos pins s σ H _ I h) fun us s1 ⟨vs, H1, I1, r, q⟩ => ⟨I1.kIn, by
    have q : sp (vs ++ []) H1 Q E0 := q
    rw [List.append_nil] at q
    have hl : (us ++ []).length = ps.length := by rw [List.append_nil, ← r.length]; exact G.len _ _ _ _ q
    have hb := D.b s1 us I1.kIn hl
    rw [List.append_nil] at hb
    refine wpAny_call (codeAny_mono (G.go X.A X.stack s1 H1 ⟨us, []⟩ us vs Q E0 hg hr I1.env0 hb r q) fun res s' hq => ?_)
    rcases res with e' | fl
    · exact hq.elim
    · rcases fl with _ | _ | _ | u
      all_goals first | exact I1.after hq | exact False.elim hq⟩) he hpl) hdb)⟩
end
section
variable {P : Program} {w : World} {K : PySem.W.Frag} {mg : Str → Option Value} {base : Heap}
/-- a def by its body, called where nothing is being shown -/
theorem Def.okG {x : Str} {st : Stmt} {f : Addr} {fd : FuncData} {N ps : List Str} {k : Nat} {sp : Sp} (D : Def K mg x st ps f fd) (S : FnScope N ps (defScope st)) (len : ∀ vs H Q E, sp vs H Q E → vs.length = ps.length)
    (hbody : ∀ (cdv : Value) (A : Around) (outer : List Env) (s : Shared) (H : Hp) (vs : List V) (Q : VK) (E : XK), (A.deeper (envOfC x (defScope st) s.heap.objs.size f cdv)).guards = some [] → Room k (A.deeper (envOfC x (defScope st) s.heap.objs.size f cdv)) → sp vs H Q E →
      ∃ t, PSs (cxOf CX0 P w K mg base N x (defScope st) f cdv A outer s H E).nox (defBody st) t ∧ t { nx := fun _ H' => Q .non H', rt := Q } (start N vs) H) : FnG P w K mg base (k + 1) f fd ps sp := by
  obtain ⟨oc, od, kV, doc, pm, an, cdv, ct, osl, rfl, lk, hcd⟩ := D.F.ex
  refine ⟨len, fun A outer s H args us vs Q E hgu hr e0 hb rv hsp => ?_⟩
  have keep := fun b o e => (e0.bs b o e).1
  have inS := e0.mod.kin.keeps keep
  refine codeAny_call_function hr.depth (inS _ _ lk) rfl S.co S.gen rfl (PySem.W.codeRec_of inS hcd) (hb _ _ _ _ (wpAny_newFunctionEnv_cells S.kind (fun y hy => ?_) fun env he s1 ic => ?_))
  · rcases S.par y.1 (List.of_mem_zip hy).1 with z | z
    · exact Or.inl z
    · exact Or.inr ⟨z, PySem.W.cellsFrom_some _ _ _ (Or.inl z)⟩
  · subst he
    refine ⟨(e0.mod.nolimit.keeps keep).keeps ic.toInCall.keep, codeAny_func ?_⟩
    obtain ⟨t, ht, hq⟩ := hbody cdv A outer s H vs Q E (deeper_guards hgu) (hr.deeper _) hsp
    have I := inv_start (CX := CX0) (mg := mg) (E := E) S hr.hd e0 (len _ _ _ _ hsp) rv ic
    refine wpAny_mono (ht.nox.run [] s1 _ H _ I hq) (fun fl s' hs => ?_) fun _ _ hs => hs
    rcases fl with _ | _ | _ | u
    all_goals first
      | (obtain ⟨v, σ', H', J, r', q'⟩ := hs; exact ⟨v, H', J.os, J.bare, J.base, J.hok, r', q'⟩)
      | (obtain ⟨σ', H', J, q'⟩ := hs; exact ⟨V.non, H', J.os, J.bare, J.base, J.hok, rfl, q'⟩)
      | (obtain ⟨_, _, _, q'⟩ := hs; exact False.elim q')
end
end Wr

set_option Elab.async false
set_option linter.all false
set_option maxRecDepth 100000
set_option maxHeartbeats 4000000
namespace Wr
open PySem
/-! ### an own class of refusals over any built-in one: tl is that one's own line -/
abbrev keTail : List Value := [.type "KeyError", .type "LookupError", .type "Exception", .type "BaseException", .type "object"]
abbrev ieTail : List Value := [.type "IndexError", .type "LookupError", .type "Exception", .type "BaseException", .type "object"]
/-- by whom it is made: newId, of the class Bn -/
structure TailOk (tl : List Value) (Bn newId : String) : Prop where
  facts : ∃ initId bmB, ExcBaseFacts Bn newId initId bmB
  b : tl.contains (.type Bn) = true
  noA : tl.contains (.type "AttributeError") = false
  noN : tl.contains (.type "NameError") = false
  obj : tl.contains (.type "object") = true
  pass : ∀ self, refuseLoop self "__setattr__" tl = pure ()
theorem ke_tail : TailOk keTail "LookupError" "LookupError.__new__" := ⟨⟨_, _, F.excBase_LookupError⟩, by decide +kernel, by decide +kernel, by decide +kernel, by decide +kernel, fun _ => by kernel_rfl⟩
theorem ie_tail : TailOk ieTail "IndexError" "IndexError.__new__" := ⟨⟨_, _, F.excBase_IndexError⟩, by decide +kernel, by decide +kernel, by decide +kernel, by decide +kernel, fun _ => by kernel_rfl⟩
theorem own_contains {C : Addr} {tl : List Value} {X : String} {c : Bool} (h : tl.contains (.type X) = c) : (Value.ref C :: tl).contains (.type X) = c := by
  rw [List.contains_cons, h]
  exact Bool.false_or c
section
variable {prog : Program} {w : World} {A : Around} {E : Value → Shared → Prop} {R : Result → Shared → Prop} {h : Heap} {g : Array GenState} {d : Drawn} {t : Nat} {os : OsState}
variable {nm q : Str} {C N : Addr} {bs tl : List Value} {hdct : Bool} {sn : List Str} {sub : List Value} {ab : Bool} {col : Option Bool} {dd : Option Addr} {k0 k1 k2 k3 k5 : Option Value} {Bn newId : String}
theorem mk_check {M : Model} {args : List Value} {Q : Unit → Shared → Prop} (T : TailOk tl Bn newId) (hC : h.get? C = some (excClassObj nm q C N bs tl hdct sn sub ab col dd k0 k1 k2 k3 k5 newId)) (hq : Q () ⟨h, g, d, t, os⟩) :
    wpAny M A (checkBuiltinCall newId ⟨.ref C :: args, []⟩) Q E ⟨h, g, d, t, os⟩ := by
  obtain ⟨initId, bmB, Fb⟩ := T.facts
  have has := own_contains (C := C) T.b
  have nostar := Fb.noStar
  simp only [Fb.newKind, Fb.newSplit, Fb.newRow, checkBuiltinCall]
  repeat (first
    | refine wpAny_loadPart_at hC ?_
    | (refine wpAny_isSubtype_exc hC ?_; rw [has])
    | refine wpAny_staticBase_exc hC ?_
    | refine wpAny_madeBy_exc hC ?_
    | simp only [bne_self_eq_false, Bool.false_eq_true, if_false]
    | wp_step)
  exact hq
theorem mk_new {args : List Value} (T : TailOk tl Bn newId) (hC : h.get? C = some (excClassObj nm q C N bs tl hdct sn sub ab col dd k0 k1 k2 k3 k5 newId)) (hl : args.length ≤ sizeLine)
    (hq : R (.ok (.ret (.ref (h.objs.size + 1)))) ⟨(h.push (W.kdv_tup args)).push (HandSPX.excO C h.objs.size), g, d, t, os⟩) : codeAny (model prog w) A (.builtin newId ⟨.ref C :: args, []⟩) R ⟨h, g, d, t, os⟩ := by
  obtain ⟨initId, bmB, Fb⟩ := T.facts
  have ends := Fb.ends
  have has := own_contains (C := C) T.b
  have nA := own_contains (C := C) T.noA
  have nN := own_contains (C := C) T.noN
  have hrest := hl
  refine codeAny_builtinAt Fb.entry ?_
  unfold Builtin.«BaseException.__new__»
  refine wpAt_bind ?_
  show wpAt _ _ _ (stack >>= _) _ _ _
  refine wpAt_bind (wpAt_stack fun _ _ => wpAt_of_wpAny ?_)
  wp_walk
  refine wpAt_of_wpAny ?_
  rw [Fb.owner]
  repeat (first
    | with_reducible refine wpAny_madeHere_exc Fb.canon hC ?_
    | with_reducible refine wpAny_loadPart_at hC ?_
    | (with_reducible refine wpAny_isSubtype_exc hC ?_; first | rw [has] | rw [nA] | rw [nN])
    | wp_step)
  show R _ _
  rw [Heap.size_push]
  exact hq
theorem mk_type {args : List Value} {fI : Addr} {Q : Fin → Shared → Prop} (T : TailOk tl Bn newId) (hC : h.get? C = some (excClassObj nm q C N bs tl hdct sn sub ab col dd k0 k1 k2 k3 k5 newId)) (hl : args.length ≤ sizeLine)
    (hi : W.Looks (model prog w) h (typeLookup (.ref C) "__init__") (some (.ref fI))) (hb : ∀ self, W.Looks (model prog w) h (bindSpecial (.ref fI) self) (.ref fI, [self]))
    (hq : codeAny (model prog w) A (.call (.ref fI) ⟨.ref (h.objs.size + 1) :: args, []⟩) (fun r s' => match r with
      | .ok (.ret v) => v = .none ∧ Q (.done (.ret (.ref (h.objs.size + 1)))) s'
      | .ok _ => False
      | .error e => E e s') ⟨(h.push (W.kdv_tup args)).push (HandSPX.excO C h.objs.size), g, d, t, os⟩) : wpAny (model prog w) A (Builtin.«type.__call__» ⟨.ref C :: args, []⟩) Q E ⟨h, g, d, t, os⟩ := by
  have quiet := let ⟨_, _, Fb⟩ := T.facts; Fb.quiet
  repeat (first
    | with_reducible refine wpAny_loadPart_at hC ?_
    | with_reducible refine wpAny_madeBy_exc hC ?_
    | wp_step)
  refine codeAny_call_builtin_code (Code.quiet_builtin _ quiet) (mk_check T hC (mk_new T hC hl ?_))
  show wpAny _ _ _ _ _ _
  have stay : ∀ c o, h.get? c = some o → ((h.push (W.kdv_tup args)).push (HandSPX.excO C h.objs.size)).get? c = some o := fun c o z => Heap.get?_push_of_some _ (Heap.get?_push_of_some _ z)
  have at1 : ((h.push (W.kdv_tup args)).push (HandSPX.excO C h.objs.size)).get? (h.objs.size + 1) = some (HandSPX.excO C h.objs.size) := by heap_get
  have C1 := stay _ _ hC
  have own : (Value.ref C :: tl).contains (.ref C) = true := by simp
  have i1 := hi.keeps stay
  have b1 := (hb (.ref (h.objs.size + 1))).keeps stay
  unfold isInstance
  repeat (first
    | with_reducible refine wpAny_loadPart_at at1 ?_
    | (with_reducible refine wpAny_isSubtype_exc C1 ?_; rw [own])
    | wp_step)
  show wpAny _ _ (typeLookup (.ref C) _) _ _ _
  refine i1.at (wpAny_holding (wpAny_bind (b1.at (wpAny_bind (wpAny_call (codeAny_mono hq fun r s' z => ?_))))))
  rcases r with e | (v | _ | _ | _) <;> first | exact z | exact z.elim | skip
  obtain ⟨rfl, y⟩ := z
  first
    | exact wpAny_pure (wpAny_pure y)
    | (wp_walk; exact y)
/-- C(..), C's __init__ a def -/
theorem mk_call {args : List Value} {fI : Addr} (T : TailOk tl Bn newId) (hC : h.get? C = some (excClassObj nm q C N bs tl hdct sn sub ab col dd k0 k1 k2 k3 k5 newId)) (hl : args.length ≤ sizeLine)
    (hi : W.Looks (model prog w) h (typeLookup (.ref C) "__init__") (some (.ref fI))) (hb : ∀ self, W.Looks (model prog w) h (bindSpecial (.ref fI) self) (.ref fI, [self]))
    (hq : codeAny (model prog w) (A.under (.builtin "type.__call__" ⟨.ref C :: args, []⟩)) (.call (.ref fI) ⟨.ref (h.objs.size + 1) :: args, []⟩) (W.InitBack (h.objs.size + 1) R) ⟨(h.push (W.kdv_tup args)).push (HandSPX.excO C h.objs.size), g, d, t, os⟩) :
    codeAny (model prog w) A (.call (.ref C) ⟨args, []⟩) R ⟨h, g, d, t, os⟩ := by
  have look := tc_lookup
  have bind := tc_bind (.ref C)
  have ty : (⟨h, g, d, t, os⟩ : Shared).TypeIs (.ref C) "type" := ⟨_, hC, rfl⟩
  refine codeAny_of_tree ?_
  show wpAny _ _ (callAny (.ref C) _) _ _ _
  repeat (any_goals (first
    | assumption
    | with_reducible refine wpAny_loadPart_at hC ?_
    | wp_step))
  refine ⟨rfl, codeAny_call_builtin_at (Code.quiet_builtin _ (by decide +kernel)) entry_typeCall (wpAny_check_type_call_sub hC (mk_type T hC hl hi hb (codeAny_mono hq fun r s' z => ?_)))⟩
  rcases r with e | (v | _ | _ | _) <;> exact z
end
/-- B.__init__(e, ..) of such an exception: its args are laid anew, nothing else -/
def InitOk (tl : List Value) (newId initId : String) : Prop :=
  ∀ (prog : Program) (w : World) (A : Around) (R : Result → Shared → Prop) (h : Heap) (g : Array GenState) (d : Drawn) (t : Nat) (os : OsState) (nm q : Str) (C N : Addr) (bs : List Value) (hdct : Bool) (sn : List Str) (sub : List Value) (ab : Bool) (col : Option Bool) (dd : Option Addr) (k0 k1 k2 k3 k5 : Option Value) (e t0 : Addr) (args : List Value),
    h.get? C = some (excClassObj nm q C N bs tl hdct sn sub ab col dd k0 k1 k2 k3 k5 newId) → h.get? e = some (HandSPX.excO C t0) → args.length ≤ sizeLine →
    (∀ h' t1, (∀ b o, b ≠ e → h.get? b = some o → h'.get? b = some o) → h'.get? e = some (HandSPX.excO C t1) → R (.ok (.ret .none)) ⟨h', g, d, t, os⟩) → codeAny (model prog w) A (.call (.builtin initId) ⟨.ref e :: args, []⟩) R ⟨h, g, d, t, os⟩
theorem ie_init : InitOk ieTail "IndexError.__new__" "IndexError.__init__" := fun _ _ _ _ _ _ _ _ _ _ _ _ _ _ _ _ _ _ _ _ _ _ _ _ _ _ _ _ hC he hl hq => HandSPX.init_base F.excBase_IndexError (fun _ => rfl) hC he hl hq
theorem ke_entry : entryFor table "KeyError.__init__" = some Builtin.«BaseException.__init__» := by
  refine entryFor_alias (id' := "BaseException.__init__") ?_ ?_ ?_ ?_
  · rw [fastTable_eq_tree]
    kernel_rfl
  · first | rfl | decide +kernel
  · decide +kernel
  · rw [fastTable_eq_tree]
    kernel_rfl
theorem ke_check {M : Model} {A : Around} {E : Value → Shared → Prop} {h : Heap} {g : Array GenState} {d : Drawn} {t : Nat} {os : OsState} {nm q : Str} {C N : Addr} {bs : List Value} {hdct : Bool} {sn : List Str} {sub : List Value} {ab : Bool} {col : Option Bool} {dd : Option Addr} {k0 k1 k2 k3 k5 : Option Value} {newId : String} {e : Addr} {oe : Obj} {args : List Value} {Q : Unit → Shared → Prop}
    (hC : h.get? C = some (excClassObj nm q C N bs keTail hdct sn sub ab col dd k0 k1 k2 k3 k5 newId)) (he : h.get? e = some oe) (hcls : oe.cls = .ref C) (hq : Q () ⟨h, g, d, t, os⟩) : wpAny M A (checkBuiltinCall "KeyError.__init__" ⟨.ref e :: args, []⟩) Q E ⟨h, g, d, t, os⟩ := by
  have has : (Value.ref C :: keTail).contains (.type "KeyError") = true := own_contains (by decide +kernel)
  have e1 : builtinKind "KeyError.__init__" = builtinKind "IndexError.__init__" := by kernel_rfl
  have e2 : splitId "KeyError.__init__" = some ("KeyError", "__init__") := by kernel_rfl
  have e3 : Manifest.signature? "KeyError.__init__" = some ⟨.positional, "*", "KeyError", .self, [⟨"args", .varPos, false⟩]⟩ := by kernel_rfl
  have e4 := F.excBase_IndexError.initKind
  simp only [e1, e2, e3, e4, checkBuiltinCall]
  repeat (first
    | (with_reducible refine wpAny_loadPart_at he ?_; rw [hcls])
    | with_reducible refine wpAny_loadPart_at hC ?_
    | (with_reducible refine wpAny_isSubtype_exc hC ?_; rw [has])
    | wp_step)
  refine wpAny_onRaise ?_
  have ck : ∀ (a b : String) (n : Nat), Bind.check ⟨.positional, "*", "KeyError", .self, [⟨"args", .varPos, false⟩]⟩ a b n (List.map (fun x => x.fst) ({ pos := Value.ref e :: args } : Args).kw) = pure () := fun _ _ _ => check_star_args _ _ _ _ _ _
  rw [ck]
  exact wpAny_pure hq
theorem ke_init : InitOk keTail "LookupError.__new__" "KeyError.__init__" := fun prog w A R h g d t os nm q C N bs hdct sn sub ab col dd k0 k1 k2 k3 k5 e t0 args hC he hl hq => by
  have hrest := hl
  refine codeAny_call_builtin (by kernel_rfl) ke_entry (ke_check hC he rfl ?_)
  wp_walk
  refine hq _ h.objs.size (fun c o hc z => ?_) ?_
  · exact (Heap.get?_update_other _ _ (Ne.symm hc)).trans (Heap.get?_push_of_some _ z)
  · rw [Heap.get?_update_self _ (Heap.get?_push_of_some _ he) rfl]
    rfl
end Wr

set_option Elab.async false
set_option linter.all false
set_option maxRecDepth 100000
set_option maxHeartbeats 4000000
namespace Wr
open PySem PySem.Spec PyProof.Rows L2 Evl
/-! ### what the written part says of such a class -/
structure OexT (K : PySem.W.Frag) (C : Addr) (tl : List Value) (Bn newId : String) : Prop where
  tail : TailOk tl Bn newId
  cls : ∃ nm q N bs sn sub ab col dd k0 k1 k2 k3 k5, K.lookup C = some (excClassObj nm q C N bs tl true sn sub ab col dd k0 k1 k2 k3 k5 newId)
  sa : PySem.W.findIn K (.ref C) "__setattr__" = some (some (.builtin "object.__setattr__"))
  exC : PySem.W.subIn K (.ref C) (.type "BaseException") = some true
  tyC : PySem.W.typeIn K (.ref C) = some (.type "type")
  kC : PySem.W.keepIn K (.ref C) = true
section
open Builtin Builtin.ObjectAttr
variable {prog : Program} {w : World} {A : Around} {E : Value → Shared → Prop} {R : Result → Shared → Prop} {hp : Heap} {g : Array GenState} {d : Drawn} {t : Nat} {os : OsState}
/-- self.name = v, the first field -/
theorem set_first {K : W.Frag} {name : Str} {tk : Tok} {v : Value} {x C : Addr} {fv : Array Value} {cd : ClassData} {tl : List Value} {Bn newId : String} (T : TailOk tl Bn newId) (KX : K.In hp) (hx : hp.get? x = some { cls := .ref C, data := .fields fv }) (hcd : W.clsIn K C = some cd) (hm : cd.mro = .ref C :: tl) (hh : cd.hasDict = true)
    (hno : W.findIn K (.ref C) name = some none)
    (hq : ∀ h' tk' dx, (∀ b o, b ≠ x → hp.get? b = some o → h'.get? b = some o) → hp.objs.size ≤ dx → dx ≠ x → h'.get? x = some { cls := .ref C, dict := some dx, data := .fields fv } → h'.Ns1 dx (fun y => if y = name then some v else none) → R (.ok (.ret .none)) ⟨h', g, d, tk', os⟩) :
    codeAny (model prog w) A (.call (.builtin "object.__setattr__") ⟨[.ref x, .str name tk, v], []⟩) R ⟨hp, g, d, t, os⟩ := by
  have inst : W.InstAt hp x { cls := .ref C, data := .fields fv } C none := ⟨hx, rfl, rfl, trivial⟩
  have SO := F.store_object
  have hob : cd.mro.contains (.type "object") = true := by rw [hm]; exact own_contains T.obj
  have hem : cd.mro.isEmpty = false := by rw [hm]; rfl
  have far : x ≠ hp.objs.size := Nat.ne_of_lt (Heap.lt_size hx)
  have sub : W.Looks (model prog w) hp (isInstance (.ref x) (.type "object")) true := by
    refine inst.type.andThen (W.looks_mroIn KX ?_)
    unfold W.mroIn
    rw [hcd, Option.bind_some, if_neg (by rw [hem]; decide), hob]
  refine codeAny_call_builtin SO.slot.plain SO.entry (@W.check_slot (model prog w) _ _ ⟨hp, g, d, t, os⟩ "object.__setattr__" "object" "__setattr__" (.ref x) [.str name tk, v] [] _ SO.kind SO.split sub (SO.args _ _ _) ?_)
  have lcls : W.Looks (model prog w) hp (classData C) cd := W.looks_clsIn KX hcd
  have lmro : W.Looks (model prog w) hp (mroOf (.ref C)) cd.mro := lcls.andThen .now
  have ltk : W.Looks (model prog w) hp (storeTaker? none) none := .now
  rw [W.osa_eq, refuse_eq]
  refine wpAny_bind (wpAny_bind (inst.type.at (wpAny_bind (lmro.at ?_))))
  rw [hm, refuseLoop_ref, T.pass]
  refine wpAny_pure (wpAny_bind (inst.type.at (wpAny_bind ((W.looks_findIn KX hno).at (wpAny_bind (ltk.at ?_))))))
  show wpAny _ _ (storeInOwnDict (.ref x) (.ref C) (.str name tk) name v false) _ _ _
  obtain ⟨nm, bs, mro, ns, qn, hd, sn, sb, ab, col, del⟩ := cd
  dsimp only at hh
  subst hh
  unfold storeInOwnDict ownDictForStores
  repeat (first
    | with_reducible refine HandSPX.store_in_new ?_ ?_
    | with_reducible refine wpAny_loadPart_at hx ?_
    | with_reducible refine lcls.at ?_
    | wp_step)
  · exact ⟨_, #[], _, (Heap.get?_update_ne _ _ _ _ far.symm).trans (Heap.get?_push_at rfl rfl), rfl, fun e he => absurd he (by simp), fun _ => rfl⟩
  · intro h' tk' hn' hs
    have hx1 : (hp.push { cls := .type "dict", data := .dict #[] }).get? x = some { cls := .ref C, data := .fields fv } := Heap.get?_push_of_some _ hx
    exact hq h' tk' hp.objs.size (fun c o hc z => (hs.2 c (Nat.ne_of_lt (Heap.lt_size z))).trans ((Heap.get?_update_ne _ _ _ _ hc).trans (Heap.get?_push_of_some _ z))) (Nat.le_refl _) far.symm ((hs.2 x far).trans (Heap.get?_update_self _ hx1 rfl)) hn'
end
section
variable {X : Cx} {pins : List (Addr × Obj)} {σ : L2.St} {H : Hp} {s : Shared} {a C : Addr} {f : Str} {y : V} {u : Value} {A : Around} {E : Value → Shared → Prop} {tl : List Value} {Bn newId initId : String}
theorem ost_first {Q : Unit → Shared → Prop} (T : OexT X.K C tl Bn newId) (I : Inv X pins σ H s) (e : H a = some (exo a C none)) (hno : PySem.W.findIn X.K (.ref C) f = some none) (ry : RelV y u)
    (h : ∀ dx s', H dx = none → dx ≠ a → Inv X pins σ (upd (upd H dx (exd dx [(f, y)])) a (exo a C (some dx))) s' → Q () s') : wpAny (model X.prog X.w) A (setAttr (.ref a) f u) Q E s := by
  obtain ⟨nm, q, N, bs, sn, sub, ab, col, dd, k0, k1, k2, k3, k5, hC⟩ := T.cls
  have hcl : PySem.W.clsIn X.K C = some { name := nm, bases := bs, mro := .ref C :: tl, ns := N, qualname := q, hasDict := true, slotNames := sn, subclasses := sub, abstract := ab, collection := col, hasDel := false } := by
    unfold PySem.W.clsIn
    rw [hC] <;> rfl
  obtain ⟨t1, ho⟩ := exo_at I.hok e
  obtain ⟨hp, g, d, t, os⟩ := s
  refine PySem.W.set_plain I.kIn (ox := { cls := .ref C, dict := none, data := .fields #[.ref t1, .none, .none, .none, .bool false, .none] }) (od := none) ⟨ho, rfl, rfl, trivial⟩ T.sa (set_first T.tail I.kIn ho hcl rfl rfl hno fun h' tk' dx k dn dne hx hn => ?_)
  have free : H dx = none := I.hok.fresh dn
  have offd : ∀ {c : Addr} {o : Obj}, hp.get? c = some o → c ≠ dx := fun {c o} z => Nat.ne_of_lt (Nat.lt_of_lt_of_le (Heap.lt_size z) dn)
  have offa : ∀ {c : Addr}, H c = none → c ≠ a := fun {c} n z => by
    rw [z, e] at n
    cases n
  have U : Un X.fs [] H (upd (upd H dx (exd dx [(f, y)])) a (exo a C (some dx))) hp h' := {
    keep := fun c o z n _ _ => k c o (offa n) z
    slot := fun c o z n _ _ => ⟨o.slots, k c o (offa n) z⟩
    free := fun c o z n _ => by rw [upd_ne (offa n), upd_ne (offd z)]; exact n
    there := fun c o z _ => by
      by_cases hc : c = a
      · exact ⟨_, by rw [hc]; exact hx⟩
      · exact ⟨o, k c o hc z⟩
    tups := fun c xs z => by rw [upd_ne (at_ne e z exo_tup), upd_ne (ne_of_none z free)]; exact z
    frzs := fun c o v z => by rw [upd_ne (at_ne e z exo_frz), upd_ne (ne_of_none z free)]; exact z
    tbls := fun c ps z => ⟨#[], by rw [upd_ne (at_ne e z exo_tbl), upd_ne (ne_of_none z free), z]; simp⟩ }
  refine h dx _ free dne (I.un (t' := tk') U fun c o z => ?_)
  by_cases hc : c = a
  · subst hc
    rw [upd_same] at z
    cases z
    exact exo_ok hx
  · rw [upd_ne hc] at z
    by_cases hd : c = dx
    · subst hd
      rw [upd_same] at z
      cases z
      exact exd_ok hn (relO_put (fs := []) ry fun _ => True.intro)
    · rw [upd_ne hd] at z
      refine (I.hok c o z).stay (fun c' v hc' y => k c' v ?_ y) (fun c' hc' => ?_) (fun c' xs hc' => ?_)
      · rcases hc' with hc' | hc'
        · rw [hc']
          exact hc
        · exact at_ne e hc' exo_own
      · rw [upd_ne (at_ne e hc' exo_own), upd_ne (ne_of_none hc' free)]
        exact hc'
      · rw [upd_ne (at_ne e hc' exo_tup), upd_ne (ne_of_none hc' free)]
        exact hc'
theorem init_ok {us : List Value} {Q : Value → Shared → Prop} (T : OexT X.K C tl Bn newId) (hI : InitOk tl newId initId) (I : Inv X pins σ H s) (e : H a = some (exo a C none)) (hl : us.length ≤ sizeLine) (h : ∀ s', Inv X pins σ H s' → Q .none s') : wpAny (model X.prog X.w) A (call (.builtin initId) (.ref a :: us)) Q E s := by
  obtain ⟨nm, q, N, bs, sn, sub, ab, col, dd, k0, k1, k2, k3, k5, hC⟩ := T.cls
  obtain ⟨t1, ho⟩ := exo_at I.hok e
  obtain ⟨hp, g, d, t, os⟩ := s
  refine wpAny_call (hI _ _ _ _ _ _ _ _ _ _ _ _ _ _ _ _ _ _ _ _ _ _ _ _ _ _ _ _ (I.kIn _ _ hC) ho hl fun h' t2 k hx => ?_)
  have J := I.write (t' := t) (x := a) (e := a) (o := exo a C none) (by rw [e]; exact True.intro) (.inl rfl) k ⟨_, hx⟩ (exo_ok hx)
  have same : upd H a (exo a C none) = H := by
    funext c
    by_cases hc : c = a
    · rw [hc, upd_same, e]
    · exact upd_ne hc
  rw [same] at J
  exact h _ J
end
/-! ### rules -/
/-- B.__init__(self, ..) -/
def tBI (K : PySem.W.Frag) (tl : List Value) (Bn newId : String) (ta : TA) : TE := fun σ H Q => ta σ H fun vs H1 => ∃ (a C : Addr) (ws : List V), vs = .ref a :: ws ∧ ws.length ≤ 1000 ∧ OexT K C tl Bn newId ∧ H1 a = some (exo a C none) ∧ Q .non H1
/-- self.f = e, the first field -/
def tFst (K : PySem.W.Frag) (tl : List Value) (Bn newId : String) (f : Str) (to te : TE) : TS := fun D σ H => te σ H fun y H1 => to σ H1 fun x H2 => ∃ a C : Addr, x = .ref a ∧ OexT K C tl Bn newId ∧ PySem.W.findIn K (.ref C) f = some none ∧
  H2 a = some (exo a C none) ∧ ∀ dx, H2 dx = none → dx ≠ a → D.nx σ (upd (upd H2 dx (exd dx [(f, y)])) a (exo a C (some dx)))
section
variable {X : Cx} {o e : Expr} {es : List Expr} {to te : TE} {ta : TA} {f B : Str} {p p' p1 p2 pos : Pos} {tl : List Value} {Bn newId initId Bs : String}
theorem pe_binit {pl : Sem Bool} (hI : InitOk tl newId initId) (hg : Gl X B) (hm : X.mg B = none) (hv : bootBuiltins B = some (.type Bs)) (ht : typeOf (.type Bs) = pure (.type "type")) (hst : Manifest.isStub Bs = false) (hhd : PySem.W.handedIn (.builtin initId) = true) (hnn : B ≠ "__name__") (hdb : (B == ("__debug__" : Str)) = false)
    (vV : PySem.W.findCls X.K (.type Bs) (.type "type") "__init__" = some (.val (.builtin initId))) (ha : PA X (e :: es) ta)
    (hc : eval (.Call (.Attribute (.Name B p1) "__init__" p2) (e :: es) [] pos) X.env = (do
      let ov ← eval (.Name B p1) X.env
      standAt p2.atName
      let (f, first) ← holding [ov] (getMethod ov "__init__" pl)
      callWith pos f first (backTo pos (starEach (e :: es) X.env)) (backToKw pos (keywordEach [] X.env))) := by rfl)
    (he : starEach (e :: es) X.env = (false, eval e X.env) :: starEach es X.env := by rfl) (hpl : (backTo pos (starEach es X.env)).any (·.1) = false := by rfl) :
    PE X (.Call (.Attribute (.Name B p1) "__init__" p2) (e :: es) [] pos) (tBI X.K tl Bn newId ta) := by
  refine ⟨fun pins s σ H Q I h => PySem.W.methodCall_KW (ld_blt I hg hm hv ?_ hnn hdb) hc⟩
  obtain ⟨m, fr⟩ := I.fr
  refine PySem.W.method_type fr I.ok.mod.kin ht hst vV hhd ?_
  show wpAny _ _ (callWith pos (Value.builtin initId) [] (backTo pos (starEach (e :: es) X.env)) []) _ _ _
  refine PyProof.Rows.callWith_method1 (thn (ha.run pos pins _ σ H _ (I.tok _) h) fun us s1 ⟨vs, H1, I1, r1, a, C, ws, ev, hl, T, ea, q⟩ => ?_) he hpl
  subst ev
  cases r1 with
  | @cons _ u0 _ ur ra rr =>
    obtain rfl : u0 = Value.ref a := ra
    exact init_ok T hI I1 ea (by rw [← Paired.length rr, sizeLine_eq]; omega) fun s' J => ⟨.non, H1, J, rfl, q⟩
theorem ps_first (ho : PE X o to) (he : PE X e te) (hs : swapsWith e (some (.Attribute o f p')) pos.line X.env = pure false := by rfl) : PS X (.Assign [.Attribute o f p'] e pos) (tFst X.K tl Bn newId f to te) := by
  refine ⟨fun pins s σ H D I h => plainObj_wpAny_Assign_Attribute (thn (he.run pins s σ H _ I h) fun v s1 ⟨y, H1, I1, r1, q1⟩ => thn (ho.run pins s1 σ H1 _ I1 q1) fun u s2 ⟨x, H2, I2, r2, a, C, ex, T, hno, ea, q⟩ => ?_) hs⟩
  subst ex
  obtain rfl : u = Value.ref a := r2
  exact ost_first T I2 ea hno r1 fun dx s' n ne J => ⟨σ, _, J, q dx n ne⟩
/-- C(e, ..) as an exception that is raised -/
theorem pmk_t {CX : CXT} {x : Str} {C fI : Addr} {k : Nat} {fd : FuncData} {ps : List Str} {sp : Sp} (T : OexT X.K C tl Bn newId) (iC : PySem.W.findIn X.K (.ref C) "__init__" = some (some (.ref fI))) (tI : PySem.W.typeIn X.K (.ref fI) = some (.type "function"))
    (G : FnOk X.prog X.w X.K X.mg X.base CX k fI fd ps sp) (hr : Room (k + 1) X.A) (hb : Binds X.K fd ps []) (hx : Passes CX X (fun _ _ _ => False)) (hg : Gl X x) (hm : X.mg x = some (.ref C)) (ha : PA X (e :: es) ta)
    (hdb : (x == ("__debug__" : Str)) = false := by decide) (he : starEach (e :: es) X.env = (false, eval e X.env) :: starEach es X.env := by rfl) (hpl : (backTo pos (starEach es X.env)).any (·.1) = false := by rfl) :
    PMk X (.Call (.Name x p) (e :: es) [] pos) (tMkO C sp [] ta) := by
  intro pins s σ H Q I h
  obtain ⟨nm, q, N, bs, sn, sub, ab, col, dd, k0, k1, k2, k3, k5, hC⟩ := T.cls
  refine wpAny_Call_Name_kw (ld_glob I hg hm (PySem.W.callWith_K (h₀ := X.base) I.ok.mod.kin T.kC (thn (ha.run pos pins s σ H _ I h) fun us s1 ⟨vs, H1, I1, r1, hz, q1⟩ => ⟨I1.kIn, ?_⟩) he hpl) hdb)
  show wpAny _ _ (call (.ref C) us) _ _ _
  obtain ⟨hp, g, dr, tk, os⟩ := s1
  have up : hp.objs.size ≤ hp.objs.size + 1 := Nat.le_succ _
  have free : H1 (hp.objs.size + 1) = none := I1.hok.fresh up
  have hq := q1 _ free
  rw [List.append_nil] at hq
  have stay : ∀ c u, hp.get? c = some u → ((hp.push (PySem.W.kdv_tup us)).push (PySem.HandSPX.excO C hp.objs.size)).get? c = some u := fun c u z => Heap.get?_push_of_some _ (Heap.get?_push_of_some _ z)
  have at1 : ((hp.push (PySem.W.kdv_tup us)).push (PySem.HandSPX.excO C hp.objs.size)).get? (hp.objs.size + 1) = some (PySem.HandSPX.excO C hp.objs.size) := by heap_get
  have I2 : Inv X pins σ (upd H1 (hp.objs.size + 1) (exo (hp.objs.size + 1) C none)) ⟨(hp.push (PySem.W.kdv_tup us)).push (PySem.HandSPX.excO C hp.objs.size), g, dr, tk, os⟩ := I1.laid (t' := tk) stay up (exo_ok at1)
  have r2 : Vals (V.ref (hp.objs.size + 1) :: vs) (Value.ref (hp.objs.size + 1) :: us) := .cons rfl r1
  have hl : (Value.ref (hp.objs.size + 1) :: us ++ []).length = ps.length := by
    rw [List.append_nil, ← r2.length]
    exact G.len _ _ _ _ hq
  have hus : us.length ≤ sizeLine := by
    rw [← Paired.length r1, sizeLine_eq]
    omega
  have hb2 := hb ⟨(hp.push (PySem.W.kdv_tup us)).push (PySem.HandSPX.excO C hp.objs.size), g, dr, tk, os⟩ (Value.ref (hp.objs.size + 1) :: us) I2.kIn hl
  rw [List.append_nil] at hb2
  refine wpAny_call (mk_call T.tail (I1.kIn _ _ hC) hus (PySem.W.looks_findIn I1.kIn iC) (fun self => PySem.W.bind_fn I1.kIn self tI) (codeAny_mono (G.run _ X.stack _ _ ⟨Value.ref (hp.objs.size + 1) :: us, []⟩ _ _ _ (fun _ _ _ => False) (hr.make C us []) (I2.env0.make C us []) hb2 r2 hq) fun r s' hq' => ?_))
  rcases r with er | fl
  · exact hx pins σ _ _ er s' I2 hq'
  rcases fl with _ | _ | _ | u
  all_goals try exact False.elim hq'
  obtain ⟨v, H2, os2, bare2, un2, hok2, rv, ev, d, fs, ea, ed, hd1, q2⟩ := hq'
  subst ev
  obtain ⟨h2, g2, d2, t2, os'⟩ := s'
  exact ⟨rv, mk_end (raises_own T.exC T.tyC) I1 up stay un2 hok2 os2 bare2 ea ed hd1 q2⟩
end
end Wr

set_option Elab.async false
set_option linter.all false
set_option maxRecDepth 100000
set_option maxHeartbeats 4000000
namespace Wr
open PySem PySem.Spec PyProof.Rows L2 Evl
abbrev s_copy : Stmt := topS 12
abbrev NC : List Str := ["thing", "begun", "source", "copied", "inner", "whole"]
theorem sc_copy : FnScope NC ["thing"] (defScope s_copy) := ⟨rfl, rfl, rfl, by decide +kernel, rfl, by decide +kernel, by decide +kernel⟩
def seqD (d : PyData) : Bool := isD "list" d || isD "tuple" d
def itemsD : PyData → List PyData
  | .list ds => ds
  | .tuple ds => ds
  | _ => []
theorem seq_cases {d : PyData} (h : seqD d = true) : (∃ ds, d = .list ds) ∨ ∃ ds, d = .tuple ds := by
  cases d <;> first | exact .inl ⟨_, rfl⟩ | exact .inr ⟨_, rfl⟩ | (simp [seqD, isD, dTy, tyIs] at h)
section
variable {K : PySem.W.Frag} {b : List Addr} {σ : L2.St} {H H' : Hp} {ta tb te : TE} {d : PyData} {ds : List PyData}
/-- isinstance(x, (list, tuple)) -/
theorem ed_isiS (kn : Kn b H) (ha : ED K b ta σ H d) : ED K b (tCB (rIsiT K) (tCons ta (tCons (tTup (tCons (tC (.ty "list")) (tCons (tC (.ty "tuple")) tNil))) tNil))) σ H (.bool (seqD d)) := fun H1 x1 Q q =>
  ha H1 x1 _ fun v H2 x2 hv => ⟨by show 2 ≤ sizeLine; decide, fun p hp => by
    have x3 : Ex H2 (upd H2 p (.tup [.ty "list", .ty "tuple"])) := Ex.new hp
    refine ⟨v, p, [.ty "list", .ty "tuple"], .type (dTy d), [.type "list", .type "tuple"], seqD d, rfl, upd_same, .cons (.ty "list") (.cons (.ty "tuple") .nil), dp_ty (Dq.up hv x3).dp, ?_, q _ _ (x2.trans x3) (.bl _)⟩
    have k1 := dp_kit (K := K) (Dq.dp hv) (T := "list") (.inr (.inr (.inr (.inr rfl))))
    have k2 := dp_kit (K := K) (Dq.dp hv) (T := "tuple") (.inr (.inr (.inr (.inl rfl))))
    unfold seqD PySem.W.kitAny
    rw [k1]
    cases isD "list" d with
    | true => rfl
    | false =>
      show PySem.W.kitAny K _ [.type "tuple"] = _
      unfold PySem.W.kitAny
      rw [k2]
      cases isD "tuple" d <;> rfl⟩
theorem ed_ixQ {i : Int} {z : PyData} (ha : ED K b ta σ H d) (hb : ED K b tb σ H (.int i)) (hs : seqD d = true) (hi : atI (itemsD d) i = some z) : ED K b (tOp (rIx K) ta tb) σ H z :=
  ed_op ha hb fun H1 x y Q _ hx hy q => by
    rcases seq_cases hs with ⟨ds, rfl⟩ | ⟨ds, rfl⟩
    · cases hx with
      | lst h1 h2 =>
        obtain ⟨v, q1, q2⟩ := dps_atI h2 hi
        exact .inl ⟨_, _, i, v, rfl, dq_int hy, ex_l hid_le h1, q1, q v H1 (Ex.refl H1) q2⟩
    · cases hx with
      | tup h1 _ h2 =>
        obtain ⟨v, q1, q2⟩ := dps_atI h2 hi
        exact .inr (.inl ⟨_, _, i, v, rfl, dq_int hy, ex_t hid_le h1, q1, q v H1 (Ex.refl H1) q2⟩)
theorem ed_lenL {c : Addr} {vs : List V} {j : Nat} (hs : σ[j]? = some (some (.ref c))) (h : H c = some (.lst vs)) : ED K b (tCB (rLen K) (tCons (tVar j) tNil)) σ H (.int (vs.length : Nat)) := fun H1 x1 Q q =>
  ⟨.ref c, hs, .ref c, vs.length, rfl, .inl ⟨vs, .inl (.inl (x1 _ _ h)), rfl⟩, q _ H1 (Ex.refl H1) (.int _)⟩
theorem hid_put {c : Addr} {o : HO} (hc : c ∈ b) : Ex (hid b H) (hid b (upd H c o)) := fun a u h => by
  obtain ⟨h1, h2⟩ := hid_some h
  rw [hid_ne h1, upd_ne fun z => h1 (by rw [z]; exact hc)]
  exact h2
theorem hid_less {b' : List Addr} (h : ∀ c ∈ b', c ∈ b) : Ex (hid b H) (hid b' H) := fun a u z => by
  obtain ⟨h1, h2⟩ := hid_some z
  rw [hid_ne fun w => h1 (h a w)]
  exact h2
/-- more is hidden that was not there -/
theorem hid_more {b' : List Addr} (h : ∀ c ∈ b', c ∈ b ∨ H c = none) : Ex (hid b H) (hid b' H) := fun a u z => by
  obtain ⟨h1, h2⟩ := hid_some z
  rw [hid_ne fun w => (h a w).elim h1 fun n => by rw [n] at h2; cases h2]
  exact h2
end
theorem g_ifE {K : PySem.W.Frag} {σ : L2.St} {H : Hp} {tt : TT} {c : Bool} {t1 t2 ts : TS} {D : Ends} (hc : EvT tt σ H c) (h : ∀ H1, Ex H H1 → (if c = true then t1 { D with nx := ts D } σ H1 else t2 { D with nx := ts D } σ H1)) : tSeq (tIfS tt t1 t2) ts D σ H := hc H (Ex.refl H) _ h
/-! ### what is being copied -/
structure Fr where
  t : Addr
  v : V
  c : Addr
  d : PyData
  n : Nat
  k : Nat
structure FrOk (K : PySem.W.Frag) (b hb : List Addr) (H0 H : Hp) (f : Fr) : Prop where
  t : ∃ o, H f.t = some (.frz o (.tup [f.v, .ref f.c]))
  src : Dq K b H0 f.v f.d
  sq : seqD f.d = true
  le : f.n ≤ (itemsD f.d).length
  ok : okD f.k f.d = true
  c : ∃ vs, H f.c = some (.lst vs) ∧ DqAll K hb H vs ((itemsD f.d).take f.n)
def Chn (d0 : PyData) : List Fr → Prop
  | [] => False
  | [f] => f.d = d0 ∧ f.k = 30
  | f :: g :: r => (itemsD g.d)[g.n]? = some f.d ∧ f.k + 1 = g.k ∧ Chn d0 (g :: r)
def lowW : List Fr → Nat
  | [] => 0
  | f :: r => 1 + szAll ((itemsD f.d).drop (f.n + 1)) + lowW r
def topW : List Fr → Nat
  | [] => 0
  | f :: r => 1 + szAll ((itemsD f.d).drop f.n) + lowW r
def hids (b : List Addr) (B : Addr) (fs : List Fr) : List Addr := B :: (fs.map Fr.c ++ b)
structure Cpy (K : PySem.W.Frag) (b : List Addr) (H0 : Hp) (d0 : PyData) (B : Addr) (fs : List Fr) (H : Hp) : Prop where
  ex : Ex H0 H
  hB : H B = some (.lst (fs.reverse.map fun f => .ref f.t))
  ok : ∀ f ∈ fs, FrOk K b (hids b B fs) H0 H f
  nd : (B :: fs.map Fr.c).Nodup
  new : ∀ c ∈ B :: fs.map Fr.c, H0 c = none
  chn : Chn d0 fs
theorem chn_len {d0 : PyData} : ∀ {fs : List Fr}, Chn d0 fs → fs.length ≤ 31 ∧ ∀ f r, fs = f :: r → fs.length + f.k = 31
  | [], h => h.elim
  | [f], h => ⟨by show 1 ≤ 31; decide, fun f' r e => by
      cases e
      show 1 + f.k = 31
      rw [h.2]⟩
  | f :: g :: r, h => by
    obtain ⟨h1, h2⟩ := chn_len h.2.2
    have h3 := h2 g r rfl
    have h4 := h.2.1
    refine ⟨?_, fun f' r' e => ?_⟩
    · show (g :: r).length + 1 ≤ 31
      omega
    · cases e
      show (g :: r).length + 1 + f.k = 31
      omega
theorem ok_itemQ {k : Nat} {d z : PyData} {n : Nat} (h : okD k d = true) (hs : seqD d = true) (hz : (itemsD d)[n]? = some z) : ∃ j, k = j + 1 ∧ okD j z = true ∧ (itemsD d).length ≤ 1000 := by
  have hm := List.mem_of_getElem? hz
  rcases seq_cases hs with ⟨ds, rfl⟩ | ⟨ds, rfl⟩
  · cases k with
    | zero => cases h
    | succ j => exact ⟨j, rfl, ok_itemsL h z hm, ok_lenL h⟩
  · cases k with
    | zero => cases h
    | succ j => exact ⟨j, rfl, ok_items h z hm, ok_len h⟩
theorem ok_lenQ {k : Nat} {d : PyData} (h : okD k d = true) (hs : seqD d = true) : (itemsD d).length ≤ 1000 := by
  rcases seq_cases hs with ⟨ds, rfl⟩ | ⟨ds, rfl⟩
  · exact ok_lenL h
  · exact ok_len h
section
variable {K : PySem.W.Frag} {b : List Addr} {H0 H H' : Hp} {d0 : PyData} {B : Addr} {fs : List Fr}
theorem FrOk.go {hb hb' : List Addr} {f : Fr} (h : FrOk K b hb H0 H f) (ht : ∀ o, H f.t = some o → H' f.t = some o) (hc : ∀ o, H f.c = some o → H' f.c = some o) (x : Ex (hid hb H) (hid hb' H')) : FrOk K b hb' H0 H' f := by
  obtain ⟨⟨o, h1⟩, h2, h3, h4, h5, vs, h6, h7⟩ := h
  exact ⟨⟨o, ht _ h1⟩, h2, h3, h4, h5, vs, hc _ h6, dps_ex x _ _ h7⟩
theorem Cpy.up (h : Cpy K b H0 d0 B fs H) (x : Ex H H') : Cpy K b H0 d0 B fs H' :=
  ⟨h.ex.trans x, x _ _ h.hB, fun f hf => (h.ok f hf).go (fun o z => x _ _ z) (fun o z => x _ _ z) (hid_ex x), h.nd, h.new, h.chn⟩
/-- an item of what is copied, at its place -/
theorem item_raw {v : V} {d z : PyData} {n : Nat} (h : Dq K b H0 v d) (hs : seqD d = true) (x : Ex H0 H) (hz : (itemsD d)[n]? = some z) : ∃ u, Dq K b H0 u z ∧ ∀ Q : VK, Q u H → rIx K v (.int (n : Nat)) H Q := by
  rcases seq_cases hs with ⟨ds, rfl⟩ | ⟨ds, rfl⟩
  · cases h with
    | lst h1 h2 =>
      obtain ⟨u, q1, q2⟩ := dps_get h2 hz
      exact ⟨u, q2, fun Q q => .inl ⟨_, _, _, u, rfl, rfl, ex_l (fun c o z => x _ _ (hid_le _ _ z)) h1, atI_nat q1, q⟩⟩
  · cases h with
    | tup h1 _ h2 =>
      obtain ⟨u, q1, q2⟩ := dps_get h2 hz
      exact ⟨u, q2, fun Q q => .inr (.inl ⟨_, _, _, u, rfl, rfl, ex_t (fun c o z => x _ _ (hid_le _ _ z)) h1, atI_nat q1, q⟩)⟩
theorem ne_there {a c : Addr} {o : HO} (h1 : H a = some o) (h2 : H c = none) : c ≠ a := fun z => by
  rw [z, h1] at h2
  cases h2
theorem ne_kind {a c : Addr} {o u : HO} (h1 : H a = some o) (h2 : H c = some u) (h : o ≠ u) : c ≠ a := fun z => by
  rw [z, h1] at h2
  exact h (Option.some.inj h2)
theorem frz_lst {o : Obj} {xs ys : List V} : HO.frz o (.tup xs) ≠ HO.lst ys := fun z => by cases z
/-- one more is begun -/
theorem Cpy.push {f : Fr} {r : List Fr} (h : Cpy K b H0 d0 B (f :: r) H) {C T : Addr} {o : Obj} {u : V} {z : PyData} (hz : (itemsD f.d)[f.n]? = some z) (hu : Dq K b H0 u z) (hs : seqD z = true) (hC : H C = none) (hT : upd H C (.lst []) T = none) (hkn : Kn b H0) :
    ∃ k, Cpy K b H0 d0 B (⟨T, u, C, z, 0, k⟩ :: f :: r) (upd (upd (upd H C (.lst [])) T (.frz o (.tup [u, .ref C]))) B (.lst ((f :: r).reverse.map (fun f => V.ref f.t) ++ [.ref T]))) := by
  have hf := h.ok f List.mem_cons_self
  obtain ⟨k, hk, okz, _⟩ := ok_itemQ hf.ok hf.sq hz
  have x1 : Ex H (upd H C (.lst [])) := Ex.new hC
  have x2 : Ex (upd H C (.lst [])) (upd (upd H C (.lst [])) T (.frz o (.tup [u, .ref C]))) := Ex.new hT
  have nBC : C ≠ B := ne_there h.hB hC
  have nBT : T ≠ B := ne_there (x1 _ _ h.hB) hT
  have nCT : T ≠ C := ne_there upd_same hT
  have hH : ∀ c, H c = none → H0 c = none := fun c n => by
    cases q : H0 c with
    | none => rfl
    | some w => rw [h.ex _ _ q] at n; cases n
  have hB0 : H0 B = none := h.new B List.mem_cons_self
  have cN : C ∉ b := fun m => hkn C m (hH C hC)
  refine ⟨k, ⟨fun c w q => ?_, ?_, fun g hg => ?_, ?_, fun c hc => ?_, ?_⟩⟩
  · rw [upd_ne fun e => by rw [e, hB0] at q; cases q]
    exact x2 _ _ (x1 _ _ (h.ex _ _ q))
  · rw [upd_same]
    simp
  · rcases List.mem_cons.mp hg with rfl | hg
    · refine ⟨⟨o, by rw [upd_ne nBT, upd_same]⟩, hu, hs, Nat.zero_le _, okz, [], by rw [upd_ne nBC, upd_ne (Ne.symm nCT), upd_same], .nil⟩
    · have gk := h.ok g hg
      have gk2 := gk
      obtain ⟨⟨o', g1⟩, _, _, _, _, vs, g6, _⟩ := gk2
      have gcB : g.c ≠ B := fun e => (List.nodup_cons.mp h.nd).1 (by rw [← e]; exact List.mem_map_of_mem hg)
      refine gk.go (fun w q => ?_) (fun w q => ?_) fun c w q => ?_
      · rw [upd_ne (ne_kind (h.hB) g1 fun e => frz_lst e.symm)]
        exact x2 _ _ (x1 _ _ q)
      · rw [upd_ne gcB]
        exact x2 _ _ (x1 _ _ q)
      · obtain ⟨q1, q2⟩ := hid_some q
        have nB : c ≠ B := fun e => q1 (by rw [e]; exact List.mem_cons_self)
        have nC : c ≠ C := fun e => by rw [e, hC] at q2; cases q2
        have : c ∉ hids b B (⟨T, u, C, z, 0, k⟩ :: f :: r) := fun m => by
          rcases List.mem_cons.mp m with e | m
          · exact nB e
          · rcases List.mem_append.mp m with m | m
            · rcases List.mem_cons.mp m with e | m
              · exact nC e
              · exact q1 (List.mem_cons_of_mem _ (List.mem_append_left _ m))
            · exact q1 (List.mem_cons_of_mem _ (List.mem_append_right _ m))
        rw [hid_ne this, upd_ne nB]
        exact x2 _ _ (x1 _ _ q2)
  · have nd := List.nodup_cons.mp h.nd
    refine List.nodup_cons.mpr ⟨fun m => ?_, List.nodup_cons.mpr ⟨fun m => ?_, nd.2⟩⟩
    · rcases List.mem_cons.mp m with e | m
      · exact nBC e.symm
      · exact nd.1 m
    · obtain ⟨g, hg, e⟩ := List.mem_map.mp m
      obtain ⟨vs, g6, _⟩ := (h.ok g hg).c
      have e' : g.c = C := e
      rw [e', hC] at g6
      cases g6
  · rcases List.mem_cons.mp hc with rfl | hc
    · exact hB0
    · rcases List.mem_cons.mp hc with rfl | hc
      · exact hH _ hC
      · exact h.new c (List.mem_cons_of_mem _ hc)
  · exact ⟨hz, hk.symm, h.chn⟩
/-- one more is copied, u the copy -/
theorem Cpy.item {f : Fr} {r : List Fr} (h : Cpy K b H0 d0 B (f :: r) H) {u : V} {z : PyData} {vs : List V} (hz : (itemsD f.d)[f.n]? = some z) (hu : Dq K (hids b B (f :: r)) H u z) (hc : H f.c = some (.lst vs)) :
    Cpy K b H0 d0 B ({ f with n := f.n + 1 } :: r) (upd H f.c (.lst (vs ++ [u]))) := by
  have hf := h.ok f List.mem_cons_self
  have ncB : f.c ≠ B := fun e => (List.nodup_cons.mp h.nd).1 (by rw [← e]; exact List.mem_cons_self)
  have c0 : H0 f.c = none := h.new f.c (List.mem_cons_of_mem _ List.mem_cons_self)
  have hin : f.c ∈ hids b B (f :: r) := List.mem_cons_of_mem _ List.mem_cons_self
  have lt : f.n < (itemsD f.d).length := (List.getElem?_eq_some_iff.mp hz).1
  have nd2 := List.nodup_cons.mp (List.nodup_cons.mp h.nd).2
  refine ⟨fun c w q => ?_, ?_, fun g hg => ?_, h.nd, h.new, ?_⟩
  · rw [upd_ne fun e => by rw [e, c0] at q; cases q]
    exact h.ex _ _ q
  · rw [upd_ne (Ne.symm ncB), h.hB]
    simp
  · rcases List.mem_cons.mp hg with rfl | hg
    · obtain ⟨⟨o', g1⟩, g2, g3, g4, g5, ws, g6, g7⟩ := hf
      have ew : ws = vs := by
        rw [hc] at g6
        cases g6
        rfl
      subst ew
      refine ⟨⟨o', by rw [upd_ne (ne_kind hc g1 fun e => frz_lst e.symm)]; exact g1⟩, g2, g3, lt, g5, ws ++ [u], upd_same, ?_⟩
      have e2 : (itemsD f.d).take (f.n + 1) = (itemsD f.d).take f.n ++ [z] := by
        rw [List.take_add_one, hz]
        rfl
      show DqAll K _ _ _ ((itemsD f.d).take (f.n + 1))
      rw [e2]
      exact dps_ex (hid_put hin) _ _ (dps_app g7 (.cons hu .nil))
    · have gk := h.ok g (List.mem_cons_of_mem _ hg)
      have gk2 := gk
      obtain ⟨⟨o', g1⟩, _, _, _, _, ws, g6, _⟩ := gk2
      have ngc : g.c ≠ f.c := fun e => nd2.1 (by rw [← e]; exact List.mem_map_of_mem hg)
      refine gk.go (fun w q => ?_) (fun w q => ?_) (hid_put hin)
      · rw [upd_ne (ne_kind hc g1 fun e => frz_lst e.symm)]
        exact q
      · rw [upd_ne ngc]
        exact q
  · have hch := h.chn
    cases r with
    | nil => exact hch
    | cons g r => exact hch
/-- the top is copied to its end, and taken off -/
theorem Cpy.done {f : Fr} {r : List Fr} (h : Cpy K b H0 d0 B (f :: r) H) (hn : (itemsD f.d).length ≤ f.n) (kn : Kn b H0) :
    ∃ vs, upd H B (.lst (r.reverse.map fun f => V.ref f.t)) f.c = some (.lst vs) ∧ DqAll K (hids b B r) (upd H B (.lst (r.reverse.map fun f => V.ref f.t))) vs (itemsD f.d) ∧ f.c ∉ hids b B r ∧ Kn (hids b B r) (upd H B (.lst (r.reverse.map fun f => V.ref f.t))) ∧
      Ex H0 (upd H B (.lst (r.reverse.map fun f => V.ref f.t))) ∧ (r ≠ [] → Cpy K b H0 d0 B r (upd H B (.lst (r.reverse.map fun f => V.ref f.t)))) := by
  have hf := h.ok f List.mem_cons_self
  obtain ⟨⟨o', g1⟩, g2, g3, g4, g5, vs, g6, g7⟩ := hf
  have nd1 := List.nodup_cons.mp h.nd
  have nd2 := List.nodup_cons.mp nd1.2
  have ncB : f.c ≠ B := fun e => nd1.1 (by rw [← e]; exact List.mem_cons_self)
  have hB0 : H0 B = none := h.new B List.mem_cons_self
  have c0 : H0 f.c = none := h.new f.c (List.mem_cons_of_mem _ List.mem_cons_self)
  have sub : ∀ c ∈ hids b B r, c ∈ hids b B (f :: r) := fun c m => by
    rcases List.mem_cons.mp m with rfl | m
    · exact List.mem_cons_self
    · rcases List.mem_append.mp m with m | m
      · exact List.mem_cons_of_mem _ (List.mem_append_left _ (List.mem_cons_of_mem _ m))
      · exact List.mem_cons_of_mem _ (List.mem_append_right _ m)
  have x : Ex (hid (hids b B (f :: r)) H) (hid (hids b B r) (upd H B (.lst (r.reverse.map fun f => V.ref f.t)))) := (hid_put List.mem_cons_self).trans (hid_less sub)
  have ex : Ex H0 (upd H B (.lst (r.reverse.map fun f => V.ref f.t))) := fun c w q => by
    rw [upd_ne fun e => by rw [e, hB0] at q; cases q]
    exact h.ex _ _ q
  have rok : ∀ g ∈ r, FrOk K b (hids b B r) H0 (upd H B (.lst (r.reverse.map fun f => V.ref f.t))) g := fun g hg => by
    have gk := h.ok g (List.mem_cons_of_mem _ hg)
    have gk2 := gk
    obtain ⟨⟨o2, e1⟩, _, _, _, _, ws, e6, _⟩ := gk2
    have gcB : g.c ≠ B := fun e => nd1.1 (by rw [← e]; exact List.mem_cons_of_mem _ (List.mem_map_of_mem hg))
    refine gk.go (fun w q => ?_) (fun w q => ?_) x
    · rw [upd_ne (ne_kind h.hB e1 fun e => frz_lst e.symm)]
      exact q
    · rw [upd_ne gcB]
      exact q
  refine ⟨vs, by rw [upd_ne ncB]; exact g6, ?_, fun m => ?_, fun c m => ?_, ex, fun hr => ?_⟩
  · rw [List.take_of_length_le hn] at g7
    exact dps_ex x _ _ g7
  · rcases List.mem_cons.mp m with e | m
    · exact ncB e
    · rcases List.mem_append.mp m with m | m
      · exact nd2.1 m
      · exact kn _ m c0
  · rcases List.mem_cons.mp m with rfl | m
    · rw [upd_same]
      intro z
      cases z
    · rcases List.mem_append.mp m with m | m
      · obtain ⟨g, hg, rfl⟩ := List.mem_map.mp m
        obtain ⟨ws, e6, _⟩ := (rok g hg).c
        rw [e6]
        intro z
        cases z
      · exact kn.up ex c m
  · refine ⟨ex, upd_same, rok, List.nodup_cons.mpr ⟨fun m => nd1.1 (List.mem_cons_of_mem _ m), nd2.2⟩, fun c hc => h.new c ?_, ?_⟩
    · rcases List.mem_cons.mp hc with rfl | hc
      · exact List.mem_cons_self
      · exact List.mem_cons_of_mem _ (List.mem_cons_of_mem _ hc)
    · have hch := h.chn
      cases r with
      | nil => exact absurd rfl hr
      | cons g r => exact hch.2.2
end
section
variable {P : Program} {w : World} {K : PySem.W.Frag} {mg : Str → Option Value} {base : Heap} {f g g2 : Addr} {fd gd gd2 : FuncData}
theorem ok_copy (D : Def K mg "own_copy" s_copy ["thing"] f fd) (B : Blt mg) : FnOk P w K mg base CX0 1 f fd ["thing"] (spP K (fun ds => ds.length = 1 ∧ ∀ d, ds = [d] → okD 30 d = true) (fun ds => ds.headD .none)) := by
  refine D.F.ok sc_copy (fun vs H Q E h => spP_len (fun _ h => h.1) h) (fun cdv A outer s H vs Q E hr h => ?_)
  obtain ⟨b, ds, kn, hd, ⟨hp, hok⟩, q⟩ := h
  obtain ⟨v, d, rfl, rfl, h1⟩ := one_of hd hp
  have hok := hok d rfl
  refine ⟨_, pss_cons (ps_if (pt_not (pt_val (pe_callB call_isiT rfl B.isi bb_isinstance (pa_cons (pv 0) (pa_cons (pe_tup (pa_cons (pe_tyN rfl B.list bt_list) (pa_cons (pe_tyN rfl B.tuple bt_tuple) pa_nil))) pa_nil))))) (pss_one (ps_ret (pv 0))) pss_nil)
    (pss_cons (ps_set (i := 1) sc_copy.nd rfl (Or.inl rfl) (pe_lst (pa_cons (pe_tupF (pa_cons (pv 0) (pa_cons (pe_lst pa_nil) pa_nil))) pa_nil)))
    (pss_one (ps_while PassesOwn.never (pt_val pe_bl)
      (pss_cons (ps_asg (pe_ix ix_list (pv 1) (pe_un un_neg pe_int) (fun _ _ => rfl)) (pg_tup rfl (pgs_cons (pg_name (i := 2) sc_copy.nd rfl (Or.inl rfl)) (pgs_cons (pg_name (i := 3) sc_copy.nd rfl (Or.inl rfl)) pgs_nil))))
      (pss_cons (ps_if (pt_cmpR op_lt (pe_callB call_lenD1 rfl B.len bb_len (pa_cons (pv 3) pa_nil)) (pe_callB call_lenD1 rfl B.len bb_len (pa_cons (pv 2) pa_nil)) (nomark _))
        (pss_cons (ps_set (i := 4) sc_copy.nd rfl (Or.inl rfl) (pe_ix ix_seq (pv 2) (pe_callB call_lenD1 rfl B.len bb_len (pa_cons (pv 3) pa_nil)) (fun _ _ => rfl)))
        (pss_cons (ps_if (pt_val (pe_callB call_isiT rfl B.isi bb_isinstance (pa_cons (pv 4) (pa_cons (pe_tup (pa_cons (pe_tyN rfl B.list bt_list) (pa_cons (pe_tyN rfl B.tuple bt_tuple) pa_nil))) pa_nil))))
          (pss_one (ps_expr (pe_bm PySem.F.plainAttrs_list PySem.F.slot_list_append PySem.F.type_list_append mt_append (pv 1) (pa_cons (pe_tupF (pa_cons (pv 4) (pa_cons (pe_lst pa_nil) pa_nil))) pa_nil))))
          (pss_one (ps_expr (pe_bm PySem.F.plainAttrs_list PySem.F.slot_list_append PySem.F.type_list_append mt_append (pv 3) (pa_cons (pv 4) pa_nil)))))
        (pss_one ps_continue))) pss_nil)
      (pss_cons (ps_expr (pe_bm0 PySem.F.plainAttrs_list PySem.F.slot_list_pop PySem.F.type_list_pop mt_pop (pv 1)))
      (pss_cons (ps_set (i := 5) sc_copy.nd rfl (Or.inl rfl) (pe_ifExp (pt_val (pe_callB call_isi rfl B.isi bb_isinstance (pa_cons (pv 2) (pa_cons (pe_tyN rfl B.tuple bt_tuple) pa_nil)))) (pe_callTy call_tupF rfl B.tuple bt_tuple (pa_cons (pv 3) pa_nil)) (pv 3)))
      (pss_cons (ps_if (pt_not (pt_truth (pv 1) (by intro _; rfl))) (pss_one (ps_ret (pv 5))) pss_nil)
      (pss_one (ps_expr (pe_bm PySem.F.plainAttrs_list PySem.F.slot_list_append PySem.F.type_list_append mt_append (pe_ix ix_tup (pe_ix ix_list (pv 1) (pe_un un_neg pe_int) (fun _ _ => rfl)) pe_int (fun _ _ => rfl)) (pa_cons (pv 5) pa_nil)))))))))))), ?_⟩
  have hsl : sizeLine = 16777216 := sizeLine_eq
  have hsh := h1
  refine g_ifE (K := K) (et_n (et_b (ed_isiS (K := K) (b := b) (σ := start NC [v]) kn (ed_var (i := 0) rfl h1)))) fun H1 x1 => ?_
  cases hsq : seqD d with
  | false => exact ⟨v, rfl, q v H1 x1 (Dq.up h1 x1)⟩
  | true =>
  show tNext _ _ _
  refine gnext ?_
  refine ⟨v, rfl, Nat.zero_le _, fun C hC => ⟨by show 2 ≤ sizeLine; omega, fun T o hT ho => ⟨by show 1 ≤ sizeLine; omega, fun Bq hBq => ?_⟩⟩⟩
  have h0 : ∀ c, H1 c = none → H c = none := fun c n => by
    cases z : H c with
    | none => rfl
    | some w => rw [x1 _ _ z] at n; cases n
  have xa : Ex H1 (upd H1 C (.lst [])) := Ex.new hC
  have xb : Ex (upd H1 C (.lst [])) (upd (upd H1 C (.lst [])) T (.frz o (.tup [v, .ref C]))) := Ex.new hT
  have xc := Ex.new (o := HO.lst [V.ref T]) hBq
  have nCT : T ≠ C := ne_there upd_same hT
  have nBT : Bq ≠ T := ne_there upd_same hBq
  have nBC : Bq ≠ C := ne_there (xb _ _ upd_same) hBq
  have hn1 : ∀ c, (upd (upd H1 C (.lst [])) T (.frz o (.tup [v, .ref C]))) c = none → H1 c = none := fun c n => by
    cases z : H1 c with
    | none => rfl
    | some w => rw [xb _ _ (xa _ _ z)] at n; cases n
  have c0 : Cpy K b H d Bq [⟨T, v, C, d, 0, 30⟩] (upd (upd (upd H1 C (.lst [])) T (.frz o (.tup [v, .ref C]))) Bq (.lst [.ref T])) := by
    refine ⟨((x1.trans xa).trans xb).trans xc, upd_same, fun g hg => ?_, ?_, fun c hc => ?_, ⟨rfl, rfl⟩⟩
    · rw [List.mem_singleton.mp hg]
      exact ⟨⟨o, by rw [upd_ne (Ne.symm nBT), upd_same]⟩, h1, hsq, Nat.zero_le _, hok, [], by rw [upd_ne (Ne.symm nBC), upd_ne (Ne.symm nCT), upd_same], .nil⟩
    · exact List.nodup_cons.mpr ⟨fun m => nBC (List.mem_singleton.mp m), List.nodup_cons.mpr ⟨(fun m => nomatch m), List.nodup_nil⟩⟩
    · rcases List.mem_cons.mp hc with rfl | hc
      · exact h0 _ (hn1 _ hBq)
      · rw [List.mem_singleton.mp hc]
        exact h0 _ hC
  refine ⟨fun m σ' H' => ∃ fs y2 y3 y4 y5, σ' = [some v, some (.ref Bq), y2, y3, y4, y5] ∧ Cpy K b H d Bq fs H' ∧ topW fs = m, ⟨_, _, none, none, none, none, rfl, c0, rfl⟩, ?_⟩
  rintro m σ' H' ⟨fs, y2, y3, y4, y5, rfl, cp, rfl⟩
  refine ⟨true, rfl, ?_⟩
  show ite (true = true) _ _
  rw [if_pos rfl]
  refine ⟨fun σ' H' => ∃ m', m' < topW fs ∧ ∃ fs y2 y3 y4 y5, σ' = [some v, some (.ref Bq), y2, y3, y4, y5] ∧ Cpy K b H d Bq fs H' ∧ topW fs = m', fun _ _ z => z, ?_⟩
  cases fs with
  | nil => exact cp.chn.elim
  | cons fr r =>
  have fk := cp.ok fr List.mem_cons_self
  obtain ⟨⟨ot, f1⟩, f2, f3, f4, f5, ws, f6, f7⟩ := fk
  have hBl : H' Bq = some (.lst (r.reverse.map (fun f => V.ref f.t) ++ [.ref fr.t])) := by
    rw [cp.hB]
    simp
  have wl : ws.length = fr.n := by
    rw [dps_len f7, List.length_take]
    omega
  have hlen := ok_lenQ f5 f3
  have hkD := (chn_len cp.chn).1
  have eLen : lenD fr.d = (itemsD fr.d).length := by
    rcases seq_cases f3 with ⟨es, e⟩ | ⟨es, e⟩ <;> rw [e] <;> rfl
  refine ⟨.ref Bq, rfl, 1, rfl, Bq, _, -1, .ref fr.t, rfl, rfl, .inl (.inl hBl), atI_last _ _, fr.t, [fr.v, .ref fr.c], rfl, .inl (.inr ⟨_, f1⟩), rfl, fr.v, [.ref fr.c], rfl, .ref fr.c, [], rfl, rfl, ?_⟩
  show tSeq _ _ _ [some v, some (.ref Bq), some fr.v, some (.ref fr.c), y4, y5] H'
  have src : ∀ {H2}, Ex H' H2 → Dq K b H2 fr.v fr.d := fun x => Dq.up (Dq.up f2 cp.ex) x
  have lenS := ed_len (K := K) (b := b) (σ := [some v, some (.ref Bq), some fr.v, some (.ref fr.c), y4, y5]) (H := H') (ed_var (i := 2) rfl (src (Ex.refl H'))) (by
    rcases seq_cases f3 with ⟨es, e⟩ | ⟨es, e⟩
    · exact .inr (.inl (by rw [e]; rfl))
    · exact .inr (.inr (by rw [e]; rfl))) (fun y e => by rw [e] at f3; cases f3)
  refine g_ifE (K := K) (et_t (ed_lt (K := K) (b := b) (ed_lenL (j := 3) rfl f6) lenS)) fun H2 x2 => ?_
  rw [wl, eLen]
  have cp2 := cp.up x2
  by_cases hlt : fr.n < (itemsD fr.d).length
  · rw [if_pos (decide_eq_true (by omega))]
    have hz : (itemsD fr.d)[fr.n]? = some (itemsD fr.d)[fr.n] := List.getElem?_eq_getElem hlt
    generalize (itemsD fr.d)[fr.n] = z at hz
    obtain ⟨u, hu, hix⟩ := item_raw (H := H2) f2 f3 cp2.ex hz
    have f62 := x2 _ _ f6
    refine ⟨fr.v, rfl, .ref fr.c, rfl, .ref fr.c, ws.length, rfl, .inl ⟨ws, .inl (.inl f62), rfl⟩, ?_⟩
    rw [wl]
    refine hix _ ?_
    show tSeq _ _ _ [some v, some (.ref Bq), some fr.v, some (.ref fr.c), some u, y5] H2
    refine g_ifE (K := K) (et_b (ed_isiS (K := K) (b := b) (kn.up cp2.ex) (ed_var (i := 4) rfl (Dq.up hu cp2.ex)))) fun H3 x3 => ?_
    have cp3 := cp2.up x3
    have drp : szAll ((itemsD fr.d).drop fr.n) = szD z + 2 + szAll ((itemsD fr.d).drop (fr.n + 1)) := by
      rw [List.drop_eq_getElem_cons hlt]
      have : (itemsD fr.d)[fr.n] = z := by
        rw [List.getElem?_eq_getElem hlt] at hz
        exact Option.some.inj hz
      rw [this]
      simp only [szAll]
    cases hzs : seqD z with
    | true =>
      have hB3 := x3 _ _ (x2 _ _ hBl)
      refine ⟨.ref Bq, rfl, .inl ⟨rfl, _, .inl (.inl hB3)⟩, u, rfl, Nat.zero_le _, fun C2 hC2 => ⟨by show 2 ≤ sizeLine; omega, fun T2 o2 hT2 ho2 => ?_⟩⟩
      have hB5 : (upd (upd H3 C2 (.lst [])) T2 (.frz o2 (.tup [u, .ref C2]))) Bq = some (.lst (r.reverse.map (fun f => V.ref f.t) ++ [.ref fr.t])) := Ex.new hT2 _ _ (Ex.new hC2 _ _ hB3)
      refine ⟨Bq, _, .ref T2, rfl, rfl, hB5, ?_, ?_⟩
      · have := hkD
        simp only [List.length_cons] at this
        simp only [List.length_append, List.length_map, List.length_reverse, List.length_singleton]
        omega
      · obtain ⟨kk, cn⟩ := cp3.push (T := T2) (o := o2) hz hu hzs hC2 hT2 kn
        have e9 : (fr :: r).reverse.map (fun f => V.ref f.t) = r.reverse.map (fun f => V.ref f.t) ++ [.ref fr.t] := by simp
        rw [e9] at cn
        refine ⟨_, ?_, _, _, _, _, _, rfl, cn, rfl⟩
        show 1 + szAll ((itemsD z).drop 0) + (1 + szAll ((itemsD fr.d).drop (fr.n + 1)) + lowW r) < 1 + szAll ((itemsD fr.d).drop fr.n) + lowW r
        rw [drp, List.drop_zero]
        have : szD z = szAll (itemsD z) + 3 := by
          rcases seq_cases hzs with ⟨es, e⟩ | ⟨es, e⟩ <;> rw [e]
          · exact szD_lst es
          · exact szD_tup es
        omega
    | false =>
      have f63 := x3 _ _ f62
      refine ⟨.ref fr.c, rfl, .inl ⟨rfl, _, .inl (.inl f63)⟩, u, rfl, fr.c, ws, u, rfl, rfl, f63, by omega, ?_⟩
      have hu2 : Dq K (hids b Bq (fr :: r)) H3 u z := by
        cases hu with
        | non => exact .non
        | bl c => exact .bl c
        | int i => exact .int i
        | str y => exact .str y
        | lst _ _ => simp [seqD, isD, dTy, tyIs] at hzs
        | tup _ _ _ => simp [seqD, isD, dTy, tyIs] at hzs
      refine ⟨_, ?_, _, _, _, _, _, rfl, cp3.item hz hu2 f63, rfl⟩
      show 1 + szAll ((itemsD fr.d).drop (fr.n + 1)) + lowW r < 1 + szAll ((itemsD fr.d).drop fr.n) + lowW r
      rw [drp]
      omega
  · rw [if_neg (by rw [decide_eq_false (by omega)]; exact Bool.false_ne_true)]
    refine gnext ?_
    have hB2 := x2 _ _ hBl
    refine ⟨.ref Bq, rfl, .inl ⟨rfl, _, .inl (.inl hB2)⟩, Bq, _, .ref fr.t, rfl, rfl, hB2, by simp, ?_⟩
    rw [List.dropLast_concat]
    obtain ⟨vs, d1, d2, d3, d4, d5, d6⟩ := cp2.done (by omega) kn
    have hB4 : upd H2 Bq (.lst (r.reverse.map fun f => V.ref f.t)) Bq = some (.lst (r.reverse.map fun f => V.ref f.t)) := upd_same
    generalize upd H2 Bq (.lst (r.reverse.map fun f => V.ref f.t)) = H4 at d1 d2 d4 d5 d6 hB4
    have fin : ∀ (u : V) (H5 : Hp), Ex H4 H5 → Dq K (hids b Bq r) H5 u fr.d → (tSeq (tIfS (tNot fun σ H Q => tVar 1 σ H fun x H' => ∃ k, TruV K x H' k ∧ Q k H') (tRet (tVar 5)) tNext) (tDrop (tBM K "list" rAppend (tOp (rIxT K) (tOp (rIxL K) (tVar 1) (tUn (rU fun i => .int (-i)) (tC (.int 1)))) (tC (.int 1))) (tCons (tVar 5) tNil))))
        { nx := fun σ' H' => ∃ m', m' < topW (fr :: r) ∧ ∃ fs y2 y3 y4 y5, σ' = [some v, some (.ref Bq), y2, y3, y4, y5] ∧ Cpy K b H d Bq fs H' ∧ topW fs = m', rt := Q, ct := fun σ' H' => ∃ m', m' < topW (fr :: r) ∧ ∃ fs y2 y3 y4 y5, σ' = [some v, some (.ref Bq), y2, y3, y4, y5] ∧ Cpy K b H d Bq fs H' ∧ topW fs = m', bk := fun _ H' => Q .non H' } [some v, some (.ref Bq), some fr.v, some (.ref fr.c), y4, some u] H5 := fun u H5 x5 hu => by
      refine ⟨.ref Bq, rfl, !(r.reverse.map fun f => V.ref f.t).isEmpty, .inl ⟨_, .inl (.inl (x5 _ _ hB4)), rfl⟩, ?_⟩
      cases r with
      | nil =>
        refine ⟨u, rfl, q u H5 (d5.trans x5) ?_⟩
        have ed : fr.d = d := cp.chn.1
        rw [← ed]
        exact dp_ex (hid_less fun c hc => List.mem_cons_of_mem _ hc) _ _ hu
      | cons g r' =>
        have e9 : (g :: r').reverse.map (fun f => V.ref f.t) = r'.reverse.map (fun f => V.ref f.t) ++ [.ref g.t] := by simp
        rw [if_neg (by rw [e9]; simp)]
        refine gnext ?_
        have cp5 := (d6 (by simp)).up x5
        obtain ⟨⟨og, k1⟩, k2, k3, k4, k5, wg, k6, k7⟩ := cp5.ok g List.mem_cons_self
        have hB5 := x5 _ _ hB4
        rw [e9] at hB5
        have gl : wg.length ≤ 1000 := by
          rw [dps_len k7, List.length_take]
          have := ok_lenQ k5 k3
          omega
        refine ⟨.ref Bq, rfl, 1, rfl, Bq, _, -1, .ref g.t, rfl, rfl, .inl (.inl hB5), atI_last _ _, g.t, [g.v, .ref g.c], 1, .ref g.c, rfl, rfl, .inl (.inr ⟨_, k1⟩), rfl, .inl ⟨rfl, _, .inl (.inl k6)⟩, u, rfl, g.c, wg, u, rfl, rfl, k6, by omega, ?_⟩
        have hch := cp.chn
        have hu2 : Dq K (hids b Bq (g :: r')) H5 u fr.d := hu
        refine ⟨_, ?_, _, _, _, _, _, rfl, cp5.item hch.1 hu2 k6, rfl⟩
        show 1 + szAll ((itemsD g.d).drop (g.n + 1)) + lowW r' < 1 + szAll ((itemsD fr.d).drop fr.n) + (1 + szAll ((itemsD g.d).drop (g.n + 1)) + lowW r')
        omega
    have isT := et_b (ed_isi (K := K) (b := b) (σ := [some v, some (.ref Bq), some fr.v, some (.ref fr.c), y4, y5]) (H := H4) (T := "tuple") (.inr (.inr (.inr (.inl rfl)))) (ed_var (i := 2) rfl (Dq.up f2 d5)))
    refine isT H4 (Ex.refl H4) _ fun H5 x5 => ?_
    rcases seq_cases f3 with ⟨es, e⟩ | ⟨es, e⟩
    · rw [e]
      show ite (false = true) _ _
      rw [if_neg Bool.false_ne_true]
      refine ⟨.ref fr.c, rfl, fin _ H5 x5 ?_⟩
      rw [e]
      rw [e] at d2
      exact .lst (.inl (.inl (by rw [hid_ne d3]; exact x5 _ _ d1))) (DqAll.up d2 x5)
    · rw [e]
      show ite (true = true) _ _
      rw [if_pos rfl]
      refine ⟨.ref fr.c, rfl, fr.c, vs, rfl, .inl (.inl (x5 _ _ d1)), fun l o2 hl ho2 => fin _ _ (x5.trans (Ex.new hl)) ?_⟩
      rw [e]
      rw [e] at d2
      exact dq_newT (d4.up x5) hl ho2 (DqAll.up d2 x5)
end
end Wr

set_option Elab.async false
set_option linter.all false
set_option maxRecDepth 100000
set_option maxHeartbeats 4000000
namespace Wr
open PySem PySem.Spec PyProof.Rows L2 Evl
/-! ### NoPart -/
abbrev s_npi : Stmt := inClass (topS 15) 0
theorem sc_npi : FnScope ["self", "name"] ["self", "name"] (defScope s_npi) := ⟨rfl, rfl, rfl, by decide +kernel, rfl, by decide +kernel, by decide +kernel⟩
abbrev KeC (K : PySem.W.Frag) (C : Addr) : Prop := OexT K C keTail "LookupError" "LookupError.__new__"
/-- what the top leaves of the class -/
structure NpC (K : PySem.W.Frag) (mg : Str → Option Value) (C fI : Addr) (fdI : FuncData) : Prop where
  T : KeC K C
  F : Fun K "__init__" "NoPart.__init__" s_npi fI fdI
  b : Binds K fdI ["self", "name"] []
  m : mg "NoPart" = some (.ref C)
  i : PySem.W.findIn K (.ref C) "__init__" = some (some (.ref fI))
  t : PySem.W.typeIn K (.ref fI) = some (.type "function")
  n : PySem.W.findIn K (.ref C) "name" = some none
  v : PySem.W.findCls K (.type "KeyError") (.type "type") "__init__" = some (.val (.builtin "KeyError.__init__"))
  kb : mg "KeyError" = none
/-- the error is made: its field name is a copy -/
def XP (K : PySem.W.Frag) (C : Addr) (b : List Addr) (H : Hp) (d : PyData) (E : XK) : Prop := ∀ dx y Hf, H dx = none → Ex H Hf → Hf dx = some (.xd [("name", y)]) → Dq K b Hf y d → E (.ref C) (some dx) Hf
def spNpi (K : PySem.W.Frag) : Sp := fun vs H Q _ => ∃ (a C : Addr) (v : V) (d : PyData) (b : List Addr), vs = [.ref a, v] ∧ KeC K C ∧ PySem.W.findIn K (.ref C) "name" = some none ∧ H a = some (exo a C none) ∧ a ∈ b ∧ Kn b H ∧ Dq K b H v d ∧ okD 30 d = true ∧
  ∀ dx y H1, Ex H H1 → H1 dx = none → dx ≠ a → Dq K b H1 y d → Q .non (upd (upd H1 dx (exd dx [("name", y)])) a (exo a C (some dx)))
theorem bt_ke : bootBuiltins "KeyError" = some (.type "KeyError") := by decide +kernel
theorem ty_ke : typeOf (.type "KeyError") = pure (.type "type") := by kernel_rfl
section
variable {P : Program} {w : World} {K : PySem.W.Frag} {mg : Str → Option Value} {base : Heap} {f g C fI : Addr} {fd gd fdI : FuncData}
theorem ok_npi (T : NpC K mg C fI fdI) (D1 : Def K mg "own_copy" s_copy ["thing"] g gd) (B : Blt mg) : FnOk P w K mg base CX0 2 fI fdI ["self", "name"] (spNpi K) := by
  refine T.F.ok sc_npi (fun vs H Q E ⟨a, C, v, d, b, e, _⟩ => by rw [e]; rfl) (fun cdv A outer s H vs Q E hr h => ?_)
  obtain ⟨a, C', v, d, b, rfl, hC, hno, ha, hab, kn, hd, hok, q⟩ := h
  have G1 := ok_copy (P := P) (w := w) (base := base) D1 B
  refine ⟨_, pss_cons (ps_expr (pe_binit (tl := keTail) (Bn := "LookupError") (newId := "LookupError.__new__") ke_init rfl T.kb bt_ke ty_ke (by decide +kernel) (by decide +kernel) (by decide) (by decide) T.v (pa_cons (pv 0) (pa_cons pe_str pa_nil))))
    (pss_one (ps_first (tl := keTail) (Bn := "LookupError") (newId := "LookupError.__new__") (pv 0) (pe_cd D1 G1 hr (pa_cons (pv 1) pa_nil)))), ?_⟩
  refine ⟨.ref a, rfl, a, C', _, rfl, by show 1 ≤ 1000; decide, hC, ha, ?_⟩
  refine (ed_call (K := K) (b := b) (pre := fun ds => ds.length = 1 ∧ ∀ d, ds = [d] → okD 30 d = true) (f := fun ds => ds.headD .none) (E := E0) kn (ea_cons (ed_var (i := 1) rfl hd) ea_nil) ⟨rfl, fun d' e => by cases e; exact hok⟩) H (Ex.refl H) _ fun y H1 x1 hy => ?_
  exact ⟨.ref a, rfl, a, C', rfl, hC, hno, x1 _ _ ha, fun dx hdx hne => q dx y H1 x1 hdx hne hy⟩
end
/-! ### raise NoPart(e) -/
section
variable {X : Cx} {C fI : Addr} {fdI : FuncData} {e : Expr} {te : TE} {p pos rpos : Pos} {W : WX} {σ : L2.St} {H : Hp} {b : List Addr} {d : PyData} {g : Addr} {gd : FuncData}
theorem mk_np {E : XK} {K : PySem.W.Frag} (hT : KeC K C) (hn : PySem.W.findIn K (.ref C) "name" = some none) (kn : Kn b H) (h : ED K b te σ H d) (hok : okD 30 d = true) (hx : XP K C b H d E) : tMkO C (spNpi K) [] (tCons te tNil) σ H E :=
  h H (Ex.refl H) _ fun v H1 x1 hv => ⟨by show 1 ≤ 1000; decide, fun a ha => by
    refine ⟨a, C, v, d, a :: b, rfl, hT, hn, upd_same, List.mem_cons_self, fun z hz => ?_, dp_ex put_ex _ _ (Dq.hide hv ha), hok, fun dx y H2 x2 hdx hne hy => ⟨rfl, dx, [("name", y)], upd_same, by rw [upd_ne hne]; exact upd_same, ?_, ?_⟩⟩
    · rcases List.mem_cons.mp hz with rfl | hz
      · rw [upd_same]; intro z; cases z
      · exact (kn.up x1).up (Ex.new ha) z hz
    · cases z : H1 dx with
      | none => rfl
      | some o =>
        have := x2 _ _ (Ex.new (o := exo a C none) ha _ _ z)
        rw [this] at hdx
        cases hdx
    · have h0 : H dx = none := by
        cases z : H dx with
        | none => rfl
        | some o =>
          have := x2 _ _ (Ex.new (o := exo a C none) ha _ _ (x1 _ _ z))
          rw [this] at hdx
          cases hdx
      have stay : ∀ c o, c ≠ a → H2 c = some o → upd (del (upd (upd H2 dx (exd dx [("name", y)])) a (exo a C (some dx))) a) dx (.xd [("name", y)]) c = some o := fun c o hc z => by
        have hcd : c ≠ dx := fun e => by rw [e, hdx] at z; cases z
        rw [upd_ne hcd, del_ne hc, upd_ne hc, upd_ne hcd]
        exact z
      refine hx dx y _ h0 (fun c o z => ?_) upd_same ?_
      · have z1 := x1 _ _ z
        have hc : c ≠ a := fun e => by rw [e, ha] at z1; cases z1
        exact stay c o hc (x2 _ _ (Ex.new ha _ _ z1))
      · refine dp_ex (fun c o z => ?_) _ _ hy
        obtain ⟨z1, z2⟩ := hid_some z
        have hc : c ≠ a := fun e => z1 (by rw [e]; exact List.mem_cons_self)
        rw [hid_ne fun m => z1 (List.mem_cons_of_mem _ m)]
        exact stay c o hc z2⟩
theorem ps_np (T : NpC X.K X.mg C fI fdI) (D1 : Def X.K X.mg "own_copy" s_copy ["thing"] g gd) (B : Blt X.mg) (hc : X.calm = true) (tk : Takes X W) (hr : Room 3 X.A) (ha : PE X e te) (hg : Gl X "NoPart" := by rfl)
    (he : starEach [e] X.env = (false, eval e X.env) :: starEach [] X.env := by rfl) : PS X (.Raise (some (.Call (.Name "NoPart" p) [e] [] pos)) none rpos) (fun _ σ H => tMkO C (spNpi X.K) [] (tCons te tNil) σ H fun cls d H' => W cls d σ H') :=
  ps_raise hc tk (pmk_t T.T T.i T.t (ok_npi (P := X.prog) (w := X.w) (base := X.base) T D1 B) hr T.b pass0 hg T.m (pa_cons ha pa_nil he) (by decide) he rfl)
end
end Wr

set_option Elab.async false
set_option linter.all false
set_option maxRecDepth 100000
set_option maxHeartbeats 8000000
namespace Wr
open PySem PySem.Spec PyProof.Rows L2 Evl
/-! ### a set of texts that can be walked -/
def keyT (e : Int × Value) : Str := match e.2 with
  | .str x _ => x
  | _ => ""
def LedOk (w : World) (t : SetTable) : Prop := w.params.followText "set-order" = true ∨ t.led = true
structure TxtE (P : Program) (w : World) (es : Array (Int × Value)) (t : SetTable) (L : List Str) : Prop where
  el : ElemsOf (mixKind P w) es.toList
  tx : ∀ e ∈ es.toList, ∃ x tk, e.2 = Value.str x tk
  pm : (es.toList.map keyT).Perm L
  nd : L.Nodup
  sz : es.size < scanBound
  ft : t.fits es.size = true
  ris : Ris t.place.toList
  led : LedOk w t
def SetT (P : Program) (w : World) (h : Heap) (a : Addr) (L : List Str) : Prop := ∃ o es ep t, h.get? a = some o ∧ o.ExactSet ∧ o.data = .set es ep t ∧ TxtE P w es t L
section
variable {P : Program} {w : World} {A : Around} {E : Value → Shared → Prop} {s : Shared} {a : Addr} {L : List Str}
theorem TxtE.is {es : Array (Int × Value)} {t : SetTable} (R : TxtE P w es t L) {e : Int × Value} (he : e ∈ es.toList) (x : Str) : (mixKind P w).is (Sum.inr x) e.2 = true ↔ keyT e = x := by
  obtain ⟨y, tk, h1⟩ := R.tx e he
  unfold keyT
  rw [h1]
  constructor
  · intro h
    rcases keyIs_shape (show keyIs (Sum.inr x) (.str y tk) = true from h) with ⟨i, t', e1, e2⟩ | ⟨z, t', e1, e2⟩
    · cases e1
    · cases e1
      cases e2
      rfl
  · intro h
    have h : y = x := h
    subst h
    exact mixKind_str _ _ _ _
theorem tail_t {g : Bool → Sem Unit} (hg : ∀ (b : Bool) (s₁ : Shared) (Q' : Unit → Shared → Prop), Q' () s₁ → wpAny (model P w) A (g b) Q' E s₁) {o : Obj} {es : Array (Int × Value)} {ep : Nat} {t : SetTable} (ho : s.heap.get? a = some o) (hex : o.ExactSet) (hd : o.data = .set es ep t)
    {es1 : Array (Int × Value)} {t2 : SetTable} (R : TxtE P w es1 t2 L) {wasDummy : Bool} {RR : Option Bool → Shared → Prop} (hR : ∀ h', Heap.SameBut a s.heap h' → SetT P w h' a L → RR (some true) { s with heap := h' }) :
    wpAny (model P w) A (do
        storeSet a es1 t2
        if (!wasDummy && t2.tooFull) = true then do
            g (relayAll t2 es1 (SetTable.grown es1.size)).2.2
            storeSet a (relayAll t2 es1 (SetTable.grown es1.size)).1 (relayAll t2 es1 (SetTable.grown es1.size)).2.1
            pure (some true)
          else pure (some true)) RR E s := by
  refine wpAny_bind (wpAny_storeSet_of ho hd ?_ (fits_of_scanBound R.sz))
  have o1 := store_at (es' := es1) (t' := t2) ho hd
  have same := Heap.SameBut.update s.heap a (Obj.putSet es1 t2)
  split
  · have pm := relayAll_perm t2 es1 (SetTable.grown es1.size)
    have ft := relayAll_fits t2 es1 (SetTable.grown es1.size)
    have rs := relayAll_ris t2 es1 (SetTable.grown es1.size)
    have ld := relayAll_led t2 es1 (SetTable.grown es1.size)
    generalize relayAll t2 es1 (SetTable.grown es1.size) = Z at pm ft rs ld ⊢
    obtain ⟨es2, t3, gave⟩ := Z
    dsimp only at pm ft rs ld ⊢
    have hsz : es2.size = es1.size := by
      have := pm.length_eq
      rw [Array.length_toList, Array.length_toList] at this
      exact this
    have small : es2.size < scanBound := by rw [hsz]; exact R.sz
    refine wpAny_bind (hg _ _ _ (wpAny_bind (wpAny_storeSet_of o1 rfl ?_ (fits_of_scanBound small))))
    have o2 := store_at (es' := es2) (t' := t3) o1 rfl
    refine wpAny_pure (hR _ (same.trans (Heap.SameBut.update _ a _)) ⟨_, es2, _, t3, o2, hex, rfl, fun e he => R.el e (pm.mem_iff.mp he), fun e he => R.tx e (pm.mem_iff.mp he), (pm.map keyT).trans R.pm, R.nd, small, ft, rs, ?_⟩)
    exact R.led.imp id fun z => by rw [ld]; exact z
  · exact wpAny_pure (hR _ same ⟨_, es1, _, t2, o1, hex, rfl, R⟩)
theorem uqS_nodup {x : Str} (h : L.Nodup) : (uqStep L x).Nodup := by
  unfold uqStep
  split
  · exact h
  · rename_i hx
    exact List.nodup_append.mpr ⟨h, List.nodup_cons.mpr ⟨(fun z => nomatch z), List.nodup_nil⟩, fun y hy z hz e => hx (by rw [List.mem_singleton.mp hz] at e; rw [← e]; exact hy)⟩
theorem add_t {x : Str} {tk : Tok} {Q : Bool → Shared → Prop} (R : SetT P w s.heap a L) (room : L.length + 1 < scanBound) (hQ : ∀ b h', Heap.SameBut a s.heap h' → SetT P w h' a (uqStep L x) → Q b { s with heap := h' }) :
    wpAny (model P w) A (setAddHashed a (.str x tk) ((mixKind P w).hash (Sum.inr x))) Q E s := by
  obtain ⟨o, es, ep, t, ho, hex, hd, T⟩ := R
  have key : (mixKind P w).is (Sum.inr x) (.str x tk) = true := mixKind_str _ _ _ _
  have scan : (Value.str x tk).scannable = true := rfl
  have memL : ∀ y, y ∈ L ↔ ∃ e ∈ es.toList, (mixKind P w).is (Sum.inr y) e.2 = true := fun y => by
    rw [← T.pm.mem_iff, List.mem_map]
    constructor
    · rintro ⟨e, he, q⟩
      exact ⟨e, he, (T.is he y).mpr q⟩
    · rintro ⟨e, he, q⟩
      exact ⟨e, he, (T.is he y).mp q⟩
  unfold setAddHashed setAddHashedIn
  refine wpAny_holding (wpAny_bind (wpAny_setState_of ho hd T.ft ?_))
  dsimp only
  rw [byScan_of scan T.sz T.el]
  simp only [↓reduceIte]
  unfold setAddByScan
  refine wpAny_bind (wpAny_bind (wpAny_rule (wpAny_bind (wpAny_setScan_of key ho hd T.ft T.el ?_))))
  cases hfi : List.findIdx? (fun e => (mixKind P w).is (Sum.inr x) e.2) es.toList with
  | some j =>
    dsimp only
    obtain ⟨hj, pj, _⟩ := List.findIdx?_eq_some_iff_getElem.mp hfi
    have hin : x ∈ L := (memL x).mpr ⟨_, List.getElem_mem hj, pj⟩
    refine wpAny_pure (wpAny_pure (hQ _ s.heap (Heap.SameBut.refl a s.heap) ?_))
    rw [show uqStep L x = L from if_pos hin]
    exact ⟨o, es, ep, t, ho, hex, hd, T⟩
  | none =>
    dsimp only
    have hout : x ∉ L := fun z => by
      obtain ⟨e, he, q⟩ := (memL x).mp z
      have c := List.findIdx?_eq_none_iff.mp hfi e he
      rw [q] at c
      cases c
    have way : ∀ (b : Bool) {s₁ : Shared} {Q' : Unit → Shared → Prop}, Q' () s₁ → wpAny (model P w) A (match b with | true => rule "set.scan.the-table-gave-way" | false => pure ()) Q' E s₁ := fun b s₁ Q' q => by
      cases b
      · exact wpAny_pure q
      · exact wpAny_rule q
    have pm := layNew_perm t es ((mixKind P w).hash (Sum.inr x)) (.str x tk)
    have ft := layNew_fits t es ((mixKind P w).hash (Sum.inr x)) (.str x tk)
    have rs := layNew_ris t es ((mixKind P w).hash (Sum.inr x)) (.str x tk) T.ris
    have ld := layNew_led t es ((mixKind P w).hash (Sum.inr x)) (.str x tk)
    generalize layNew t es ((mixKind P w).hash (Sum.inr x)) (.str x tk) = Z at pm ft rs ld ⊢
    obtain ⟨es1, t1, wasDummy, gave⟩ := Z
    dsimp only at pm ft rs ld ⊢
    rw [Array.toList_push] at pm
    have pc := pm.trans (List.perm_append_singleton _ _)
    have eu : uqStep L x = L ++ [x] := if_neg hout
    have hsz : es1.size = L.length + 1 := by
      have h1 := pc.length_eq
      have h2 := T.pm.length_eq
      rw [List.length_cons, Array.length_toList, Array.length_toList] at h1
      rw [List.length_map, Array.length_toList] at h2
      omega
    have T1 : TxtE P w es1 t1 (uqStep L x) := by
      refine ⟨fun e he => ?_, fun e he => ?_, ?_, uqS_nodup T.nd, by rw [hsz]; exact room, ft, rs, T.led.imp id fun z => by rw [ld]; exact z⟩
      · rcases List.mem_cons.mp (pc.mem_iff.mp he) with z | z
        · rw [z]
          exact ⟨⟨_, key, rfl⟩, rfl⟩
        · exact T.el e z
      · rcases List.mem_cons.mp (pc.mem_iff.mp he) with z | z
        · rw [z]
          exact ⟨x, tk, rfl⟩
        · exact T.tx e z
      · rw [eu]
        exact ((pc.map keyT).trans (List.Perm.cons x T.pm)).trans (List.perm_append_singleton _ _).symm
    refine wpAny_bind (way _ ?_)
    split
    · refine wpAny_bind ?_
      rw [hashByValue_scannable 8 scan]
      refine wpAny_pure ?_
      refine tail_t (L := uqStep L x) ?_ ho hex hd ?_ ?_
      · intro b s₁ Q' q
        cases b
        · exact wpAny_pure q
        · exact wpAny_rule q
      · first
          | exact T1
          | (split
             · exact T1
             · exact ⟨T1.el, T1.tx, T1.pm, T1.nd, T1.sz, SetTable.fits_plain_off T1.ft, T1.ris, T1.led⟩)
          | (split
             · exact ⟨T1.el, T1.tx, T1.pm, T1.nd, T1.sz, SetTable.fits_plain_off T1.ft, T1.ris, T1.led⟩
             · exact T1)
      · intro h' sb r
        dsimp only
        exact wpAny_pure (hQ _ h' sb r)
    · refine wpAny_bind (wpAny_pure ?_)
      simp only [↓reduceIte]
      refine tail_t (L := uqStep L x) ?_ ho hex hd T1 ?_
      · intro b s₁ Q' q
        cases b
        · exact wpAny_pure q
        · exact wpAny_rule q
      · intro h' sb r
        dsimp only
        exact wpAny_pure (hQ _ h' sb r)
end
end Wr

set_option Elab.async false
set_option linter.all false
set_option maxRecDepth 100000
set_option maxHeartbeats 8000000
namespace Wr
open PySem PySem.Spec PyProof.Rows L2 Evl
section
variable {prog : Program} {w : World} {A : Around} {R : Result → Shared → Prop} {I : Addr} {fp wr : List Addr} {G : Array GenState → Array GenState → Prop} {n : Nat} {P : Nat → Value → Prop} {St : Nat → Shared → Prop}
/-- the loop that fills a set of texts -/
theorem fill_t (W : WalksS prog w A.in1 I fp wr G n P St) (S : Addr) (hSf : S ∉ fp) (xs : List Str) (hsz : xs.length = n) (hn1 : n + 1 < scanBound)
    (hval : ∀ i v, P i v → ∃ x t, xs[i]? = some x ∧ v = .str x t) : ∀ (k i : Nat) (s : Shared), n - i = k → i ≤ n → St i s →
      SetT prog w s.heap S (uq (xs.take i)) →
      (∀ s', Moved (S :: wr) G s s' → SetT prog w s'.heap S (uq xs) → R (.ok (.ret .none)) s') →
      codeAny (model prog w) A (.builtin "set.update.loop" ⟨[.ref S, .ref I], []⟩) R s := by
  have out : S ∉ wr := fun h => hSf (W.sub _ h)
  have more : ∀ c ∈ wr, c ∈ S :: wr := fun c hc => List.mem_cons_of_mem _ hc
  intro k
  induction k with
  | zero =>
    intro i s hk hi hst hS hR
    obtain rfl : i = n := by omega
    refine codeAny_builtin PyProof.Rows.F.entry_set_update_loop ?_
    rw [Around.under_plainId PyProof.Rows.F.plain_set_update_loop _]
    show wpAny _ A.in1 (pyNext (.ref I) >>= _) _ _ s
    refine wpAny_bind (W.done s _ _ hst fun s' hm => ?_)
    show wpAny _ A.in1 (ret Value.none) _ _ s'
    refine wpAny_pure (hR s' (hm.mono more) ?_)
    rw [List.take_of_length_le (by omega)] at hS
    obtain ⟨o, es, ep, t, ho, rest⟩ := hS
    exact ⟨o, es, ep, t, hm.heap S _ out ho, rest⟩
  | succ k ih =>
    intro i s hk hi hst hS hR
    have hlt : i < n := by omega
    refine codeAny_builtin PyProof.Rows.F.entry_set_update_loop ?_
    rw [Around.under_plainId PyProof.Rows.F.plain_set_update_loop _]
    show wpAny _ A.in1 (pyNext (.ref I) >>= _) _ _ s
    refine wpAny_bind (W.item i s _ _ hlt hst fun v s' hP hst' hm => ?_)
    obtain ⟨x, t, hx, rfl⟩ := hval i v hP
    have hS' : SetT prog w s'.heap S (uq (xs.take i)) := by
      obtain ⟨o, es, ep, tb, ho, rest⟩ := hS
      exact ⟨o, es, ep, tb, hm.heap S _ out ho, rest⟩
    show wpAny _ A.in1 (holding [Value.str x t] (setAdd S (.str x t)) >>= _) _ _ s'
    refine wpAny_bind (wpAny_holding ?_)
    unfold setAdd
    refine wpAny_holding (wpAny_bind ((mixKind prog w).pyHash (k := Sum.inr x) (mixKind_str _ _ _ _) ?_))
    have room : (uq (xs.take i)).length + 1 < scanBound := by
      have h1 := uq_length_le (xs.take i)
      rw [List.length_take] at h1
      omega
    refine add_t (s := { s' with toks := s'.toks + 1 }) hS' room fun _ h' hsb hS2 => ?_
    have et : xs.take (i + 1) = xs.take i ++ [x] := by
      rw [List.take_add_one, hx]
      rfl
    have hSi : SetT prog w h' S (uq (xs.take (i + 1))) := by
      rw [et, uq_snoc]
      exact hS2
    refine wpAny_pure ⟨plainId_quiet PyProof.Rows.F.plain_set_update_loop _, ih (i + 1) _ (by omega) hlt (W.frame _ s' _ _ hst' (Nat.le_succ _) fun c hc o e => ?_) hSi fun s'' hm'' hS'' => ?_⟩
    · have nc : c ≠ S := fun h => hSf (h ▸ hc)
      rw [hsb.2 c nc]
      exact e
    · refine hR s'' (Moved.trans W.gtrans ((hm.mono more).then_heap (Nat.le_succ _) fun c o hc e => ?_) hm'') hS''
      have nc : c ≠ S := fun h => hc (by rw [h]; exact List.mem_cons_self)
      rw [hsb.2 c nc]
      exact e
end
section
variable {prog : Program} {w : World} {A : Around} {E : Value → Shared → Prop} {s : Shared}
theorem set_call_t {T : String} {l : Addr} {xs : List Str} {Q : Value → Shared → Prop} (hh : A.handled = none) (src : SetSrc prog w T l xs s) (hn : xs.length + 1 < scanBound)
    (h : ∀ (h' : Heap) (tk : Nat), SetT prog w h' s.heap.objs.size (uq xs) →
      (∀ b o, b < s.heap.objs.size → s.heap.get? b = some o → h'.get? b = some o) → Q (.ref s.heap.objs.size) { s with heap := h', toks := tk }) :
    wpAny (model prog w) A (call (.type "set") [.ref l]) Q E s := by
  obtain ⟨c, tl, hmro⟩ := PySem.F.called_set.mro
  have m1 := PySem.F.called_set.made
  have m2 := PySem.F.called_set.sub
  refine wpAny_call (codeAny_of_tree ?_)
  show wpAny _ _ (callAny (.type "set") _) _ _ _
  refine wpAny_pure ⟨Code.quiet_builtin _ (by decide +kernel), codeAny_builtin PySem.F.entry_type_call ?_⟩
  rw [Around.under_plain (weight_type_call_type "set" [.ref l] []) rfl]
  have m3 := PySem.F.called_set.notType
  have m4 := PySem.F.called_set.canCreate
  have m5 := PySem.F.typeCall_set_1 (.ref l)
  repeat (any_goals (first | assumption | wp_step))
  refine codeAny_mono (code_set_led1 (P := prog) (w := w) (.ref l) (E := E) (Q₁ := fun obj s₁ => ∃ led : Bool, led = (!w.params.followText "set-order") ∧ obj = .ref s.heap.objs.size ∧
    s₁ = { s with heap := s.heap.push (freshSet led) }) ⟨_, rfl, rfl, rfl⟩) fun r s₁ hr => ?_
  cases r with
  | error e => exact hr
  | ok fl =>
    cases fl with
    | ret obj =>
      obtain ⟨led, hled, rfl, rfl⟩ := hr
      have hS : (s.heap.push (freshSet led)).get? s.heap.objs.size = some (freshSet led) := Heap.get?_push_size _ rfl
      have hT : Shared.TypeIs { s with heap := s.heap.push (freshSet led) } (.ref s.heap.objs.size) "set" := ⟨_, hS, rfl⟩
      have m6 := PySem.F.called_set.init.lookup
      have m7 := PySem.F.called_set.init.bind (.ref s.heap.objs.size)
      repeat (any_goals (first | assumption | wp_step))
      refine codeAny_mono (codeAny_call_builtin (R := wants (fun r s₂ => r = .none ∧ ∃ h' tk, s₂ = { s with heap := h', toks := tk } ∧
          SetT prog w h' s.heap.objs.size (uq xs) ∧ ∀ b o, b < s.heap.objs.size → s.heap.get? b = some o → h'.get? b = some o) E)
        PySem.F.called_set.init.plain PySem.F.entry_set_init (check_set_init_1 hT ?_)) fun r₂ s₂ hr₂ => ?_
      · obtain ⟨⟨ocls, odict, odata, oslots⟩, hol, hcl⟩ := src.ob
        simp only at hcl
        subst hcl
        have hol' : (s.heap.push (freshSet led)).get? l = some { cls := .type T, dict := odict, data := odata, slots := oslots } := Heap.get?_push_of_some _ hol
        have m8 := src.sub1
        have m9 := src.sub2
        have m10 := src.nd
        unfold Builtin.«set.__init__» noKeywords Builtin.Frozenset.updateFrom
        generalize hPI : pyIter = PI
        wp_walk
        subst hPI
        refine src.it _ led _ _ (by simp [hh]) fun s2 I fp wr G P St g1 g2 W st hS2 k2 hw hval hsame => ?_
        refine wpAny_bind (wpAny_runValue ?_)
        refine fill_t W s.heap.objs.size hS2 xs rfl hn hval (xs.length - 0) 0 _ (by omega) (Nat.zero_le _) st ?hS0 ?hR
        case hS0 =>
          have g0 : s2.heap.get? s.heap.objs.size = some (freshSet led) := k2 _ _ hS
          show SetT prog w s2.heap s.heap.objs.size []
          refine ⟨_, #[], 0, _, g0, ⟨rfl, rfl, rfl⟩, rfl, fun e he => by simp at he, fun e he => by simp at he, .nil, List.nodup_nil, by decide, by rfl, List.Pairwise.nil, ?_⟩
          unfold LedOk
          cases hf : w.params.followText "set-order" with
          | true => exact .inl rfl
          | false =>
            right
            show led = true
            rw [hled, hf]
            rfl
        case hR =>
          intro s' hm hS'
          obtain ⟨hp', g', d', tk', os'⟩ := s'
          obtain ⟨q1, q2, q3⟩ := hsame
          have eg : g' = s.gens := (g2 _ _ hm.gens).trans q1
          have ed : d' = s.drawn := hm.drawn.trans q2
          have eo : os' = s.os := hm.os.trans q3
          subst eg ed eo
          refine wpAny_pure ?_
          show wpAny _ _ (ret Value.none) _ _ _
          refine wpAny_pure ⟨rfl, hp', tk', rfl, hS', fun b o hb e => ?_⟩
          refine hm.heap b o (fun hmem => ?_) (k2 b o (Heap.get?_push_of_some _ e))
          rcases List.mem_cons.mp hmem with z | z
          · exact absurd (z ▸ hb) (Nat.lt_irrefl _)
          · exact absurd (hw b z) (Nat.not_lt.mpr (Nat.le_of_lt hb))
      · cases r₂ with
        | error e => exact hr₂
        | ok fl₂ =>
          cases fl₂ with
          | ret r =>
            obtain ⟨rfl, h', tk, rfl, hS', hk'⟩ := hr₂
            repeat (any_goals (first | assumption | wp_step))
            exact h _ _ hS' hk'
          | _ => exact hr₂.elim
    | _ => exact hr.elim

end
/-! ### the rules -/
def SetTO (P : Program) (w : World) (a : Addr) (L : List Str) : HO := .ext fun h => SetT P w h a L
theorem setT_new {P : Program} {w : World} {H : Hp} {h : Heap} {a : Addr} {L : List Str} (R : SetT P w h a L) : ObjOk P w H h a (SetTO P w a L) := by
  have ⟨o, _, _, _, ho, _⟩ := R
  refine ⟨R, ⟨o, ho⟩, fun h1 h2 z k => ?_⟩
  obtain ⟨o', es, ep, t, z1, z2⟩ := z
  exact ⟨o', es, ep, t, k _ z1, z2⟩
def rSetT (K : PySem.W.Frag) (P : Program) (w : World) : List V → Hp → VK → Prop := fun vs H Q => ∃ l, ∃ xs : List Str, vs = [.ref l] ∧ (SqL K H l (xs.map V.str) ∨ SqT K H l (xs.map V.str)) ∧ xs.length ≤ 1000 ∧
  ∀ p, H p = none → Q (.ref p) (upd H p (SetTO P w p (uq xs)))
theorem cr_setT {X : Cx} (hc : X.calm = true) : CallR X (.type "set") (rSetT X.K X.prog X.w) := by
  intro pins s σ H vs us Q I r h
  obtain ⟨l, xs, rfl, hq, hl, q⟩ := h
  rw [Vals.ref1 r]
  have small : xs.length + 1 < scanBound := by unfold scanBound; omega
  have fin : ∀ (h' : Heap) (tk : Nat), SetT X.prog X.w h' s.heap.objs.size (uq xs) → (∀ b o, b < s.heap.objs.size → s.heap.get? b = some o → h'.get? b = some o) → EP X pins σ Q (.ref s.heap.objs.size) { s with heap := h', toks := tk } := fun h' tk new k =>
    ⟨.ref _, upd H s.heap.objs.size (SetTO X.prog X.w s.heap.objs.size (uq xs)), I.laid (t' := tk) (fun b u e => k b u (Heap.lt_size e) e) (Nat.le_refl _) (setT_new new), rfl, q _ (I.hok.fresh (Nat.le_refl _))⟩
  rcases hq with hq | hq
  · obtain ⟨its, rv, pl, hz⟩ := I.list hq
    exact set_call_t (I.ok.hd hc) (src_list pl.isList (by simpa using rv)) small fin
  · obtain ⟨its, rv, pl, hz⟩ := I.tuple hq
    exact set_call_t (I.ok.hd hc) (src_tuple pl (by simpa using rv)) small fin
theorem strsAre_of : ∀ vs : List Value, (∀ v ∈ vs, ∃ x tk, v = Value.str x tk) → StrsAre vs (vs.map fun v => keyT (0, v))
  | [], _ => .nil
  | v :: r, h => by
    obtain ⟨x, tk, e⟩ := h v List.mem_cons_self
    subst e
    exact .cons _ _ (strsAre_of r fun u hu => h u (List.mem_cons_of_mem _ hu))
def rSortT (P : Program) (w : World) : List V → Hp → VK → Prop := fun vs H Q => ∃ (a : Addr) (L : List Str), vs = [.ref a] ∧ H a = some (SetTO P w a L) ∧ L.length < 64 ∧ ∀ ys p, ys.Perm L → sortedS ys = true → H p = none → Q (.ref p) (upd H p (.lst (ys.map V.str)))
theorem cr_sortT {X : Cx} (hc : X.calm = true) : CallR X (.builtin "sorted") (rSortT X.prog X.w) := by
  intro pins s σ H vs us Q I r h
  obtain ⟨a, L, rfl, ha, h64, q⟩ := h
  rw [Vals.ref1 r]
  have hR : ObjOk X.prog X.w H s.heap a (.ext fun h => SetT X.prog X.w h a L) := I.hok a _ ha
  obtain ⟨o, es, ep, t, ho, hex, hd, T⟩ := hR.1
  refine Calls.call_function_entry PyProof.Rows.kind_sorted PyProof.Rows.plain_sorted PyProof.Rows.entry_sorted (PyProof.Rows.args_sorted1 _) ?_
  unfold Builtin.«sorted»
  refine wpAny_bind (m := checkCount "sorted" 1 1 _) (wpAny_pure (wpAny_bind (collect_set (A := X.A.in1) (I.ok.hd hc) ⟨o, ho, hex.1, hd⟩ T.ft T.sz T.ris T.led fun s1 out k1 hz g1 o1 pm => ?_)))
  have isS : ∀ v ∈ out, ∃ x tk, v = Value.str x tk := fun v hv => by
    obtain ⟨e, he, z⟩ := List.mem_map.mp (pm.mem_iff.mp hv)
    rw [← z]
    exact T.tx e he
  have hS := strsAre_of out isS
  have pk : (out.map fun v => keyT (0, v)).Perm L := by
    have z := pm.map fun v => keyT (0, v)
    rw [List.map_map] at z
    exact z.trans T.pm
  have hol : out.length < 64 := by
    have z := pk.length_eq
    rw [List.length_map] at z
    omega
  obtain ⟨hp1, gn, dr, tk1, os1⟩ := s1
  dsimp only at k1 hz g1 o1
  refine wpAny_bind (wpAny_newList ?_ (by rw [sizeLine_eq]; omega))
  have hoL : (hp1.push (seqObj "list" out.toArray 0)).get? hp1.objs.size = some (seqObj "list" out.toArray 0) := Heap.get?_push_size _ rfl
  refine wpAny_bind (wpAny_holding (wpAny_call_entry PyProof.Rows.slot_list_sort ⟨_, hoL, rfl⟩ PyProof.Rows.entry_list_sort (list_sort_treeK strKind_oneLt hoL hS.keysOf (fun v₁ v₂ rest e => keyKind_strs (by rw [← e]; exact hS)) hol fun st' hp hs => ⟨_, rfl, ?_⟩) (PyProof.Rows.args_list_sort _)))
  obtain ⟨ys, g2, g3, g4⟩ := sorted_out_str hS hp hs
  obtain ⟨e', he'⟩ := PyProof.Rows.sortedHeap_at (vs := out) (out := (arrOf st').map (·.2)) hoL
  have pl := g3.trans pk
  have hlen : (ys.map V.str).length ≤ sizeLine := by
    rw [List.length_map, pl.length_eq, sizeLine_eq]
    omega
  have new : H hp1.objs.size = none := I.hok.fresh hz
  have k2 : ∀ b u, s.heap.get? b = some u → (sortedHeap (hp1.push (seqObj "list" out.toArray 0)) hp1.objs.size out ((arrOf st').map (·.2))).get? b = some u := fun b u e => by
    have z := k1 b u e
    have lt := Heap.lt_size z
    rw [PyProof.Rows.sortedHeap_old (Nat.ne_of_lt lt) (by rw [size_push']; exact Nat.lt_succ_of_lt lt)]
    exact Heap.get?_push_of_some _ z
  have J : Inv X pins σ (upd H hp1.objs.size (.lst (ys.map V.str))) { s with heap := sortedHeap (hp1.push (seqObj "list" out.toArray 0)) hp1.objs.size out ((arrOf st').map (·.2)), gens := gn, drawn := dr, toks := tk1 } :=
    I.call (ch := []) (Un.laid k2 hz new) (I.hok.laid k2 hz ⟨hlen, ((arrOf st').map (·.2)).toList, e', vals_of_strs g2, by rw [Array.toArray_toList]; exact he'⟩) (by rw [g1]; exact I.bare) (fun _ z => nomatch z)
  subst o1
  exact wpAny_pure ⟨_, rfl, .ref hp1.objs.size, _, J, rfl, q ys _ pl g4 new⟩
end Wr

set_option Elab.async false
set_option linter.all false
set_option maxRecDepth 100000
set_option maxHeartbeats 4000000
namespace Wr
open PySem PySem.Spec PyProof.Rows L2 Evl
/-! ### sorted texts -/
theorem srt_one {α : Type} {R : α → α → Prop} (anti : ∀ a b, R a b → R b a → a = b) : ∀ {l m : List α}, l.Perm m → l.Pairwise R → m.Pairwise R → l = m
  | [], m, p, _, _ => (List.nil_perm.mp p).symm
  | a :: r, [], p, _, _ => absurd p.length_eq (by simp)
  | a :: r, b :: t, p, h1, h2 => by
    have e : a = b := by
      rcases List.mem_cons.mp (p.mem_iff.mp List.mem_cons_self) with e | ha
      · exact e
      · rcases List.mem_cons.mp (p.symm.mem_iff.mp List.mem_cons_self) with e | hb
        · exact e.symm
        · exact anti a b ((List.pairwise_cons.mp h1).1 b hb) ((List.pairwise_cons.mp h2).1 a ha)
    subst e
    rw [srt_one anti (List.Perm.cons_inv p) (List.pairwise_cons.mp h1).2 (List.pairwise_cons.mp h2).2]
def LeS (a b : Str) : Prop := a.cps.toList ≤ b.cps.toList
theorem risingS_pw : ∀ (p : Str) (l : List Str), risingS p l = true → (p :: l).Pairwise LeS
  | p, [], _ => List.pairwise_singleton _ _
  | p, x :: r, h => by
    have h' : (!ltCps x.cps.toList p.cps.toList && risingS x r) = true := h
    rw [Bool.and_eq_true, ltCps_eq] at h'
    have h1 : LeS p x := by
      have := h'.1
      intro z
      rw [decide_eq_true z] at this
      cases this
    have ih := risingS_pw x r h'.2
    refine List.pairwise_cons.mpr ⟨fun y hy => ?_, ih⟩
    rcases List.mem_cons.mp hy with rfl | hy
    · exact h1
    · exact List.le_trans h1 ((List.pairwise_cons.mp ih).1 y hy)
theorem sortedS_pw {l : List Str} (h : sortedS l = true) : l.Pairwise LeS := by
  cases l with
  | nil => exact List.Pairwise.nil
  | cons x r => exact risingS_pw x r h
theorem leS_anti (a b : Str) (h1 : LeS a b) (h2 : LeS b a) : a = b := by
  have e : a.cps.toList = b.cps.toList := List.le_antisymm h1 h2
  obtain ⟨ca⟩ := a
  obtain ⟨cb⟩ := b
  exact congrArg Str.mk (Array.toList_inj.mp e)
open Classical in
noncomputable def srtS (L : List Str) : List Str := if h : ∃ ys : List Str, ys.Perm L ∧ sortedS ys = true then Classical.choose h else L
theorem srtS_eq {ys L : List Str} (h1 : ys.Perm L) (h2 : sortedS ys = true) : ys = srtS L := by
  have h : ∃ ys : List Str, ys.Perm L ∧ sortedS ys = true := ⟨ys, h1, h2⟩
  have e : srtS L = Classical.choose h := dif_pos h
  obtain ⟨g1, g2⟩ := Classical.choose_spec h
  rw [e]
  exact srt_one leS_anti (h1.trans g1.symm) (sortedS_pw h2) (sortedS_pw g2)
/-! ### new lists -/
section
variable {K : PySem.W.Frag} {b : List Addr} {σ : L2.St} {H H' : Hp} {ta tb te : TE} {t : TA} {tt : TT} {ts : TS} {d : PyData} {ds es : List PyData}
def EL (K : PySem.W.Frag) (b : List Addr) (te : TE) (σ : L2.St) (H : Hp) (ds : List PyData) : Prop := ∀ H1, Ex H H1 → ∀ Q : VK, (∀ p vs H2, Ex H1 H2 → H1 p = none → H2 p = some (.lst vs) → DqAll K b H2 vs ds → Q (.ref p) H2) → te σ H1 Q
theorem EL.ed (kn : Kn b H) (h : EL K b te σ H ds) : ED K b te σ H (.list ds) := fun H1 x1 Q q => h H1 x1 Q fun p vs H2 x2 hp h2 hv => q _ H2 x2 (.lst (.inl (.inl (by rw [hid_ne ((kn.up x1).new hp)]; exact h2))) hv)
/-- list(tuple) -/
def rListOf (K : PySem.W.Frag) : List V → Hp → VK → Prop := fun xs H Q => ∃ p ys, xs = [.ref p] ∧ (SqL K H p ys ∨ SqT K H p ys) ∧ ∀ l, H l = none → Q (.ref l) (upd H l (.lst ys))
theorem call_listF {X : Cx} : CallR X (.type "list") (rListOf X.K) := call_list_of
theorem el_listOf (ha : ED K b ta σ H (.tuple ds)) : EL K b (tCB (rListOf K) (tCons ta tNil)) σ H ds := fun H1 x1 Q q =>
  ha H1 x1 _ fun v H2 x2 hv => by
    cases hv with
    | tup g1 gn g2 =>
      refine ⟨_, _, rfl, .inr (ex_t hid_le g1), fun l hl => q l _ _ (x2.trans (Ex.new hl)) ?_ upd_same (DqAll.up g2 (Ex.new hl))⟩
      cases z : H1 l with
      | none => rfl
      | some o => rw [x2 _ _ z] at hl; cases hl
/-- new + a list that is known -/
theorem el_catV {p : Addr} {vs : List V} {i : Nat} (ha : EL K b ta σ H ds) (hs : σ[i]? = some (some (.ref p))) (hp : H p = some (.lst vs)) (hv : DqAll K b H vs es) (hl : ds.length + es.length ≤ sizeLine) : EL K b (tOp rCat ta (tVar i)) σ H (ds ++ es) := fun H1 x1 Q q =>
  ha H1 x1 _ fun p1 us H2 x2 hp1 h2 hu => ⟨.ref p, hs, p1, p, us, vs, rfl, rfl, h2, x2 _ _ (x1 _ _ hp), by rw [dps_len hu, dps_len hv]; exact hl, fun p2 hp2 => q p2 _ _ (x2.trans (Ex.new hp2)) (by
    cases z : H1 p2 with
    | none => rfl
    | some o => rw [x2 _ _ z] at hp2; cases hp2) upd_same (DqAll.up (dps_app hu (DqAll.up hv (x1.trans x2))) (Ex.new hp2))⟩
theorem el_cat (ha : EL K b ta σ H ds) (hb : EL K b tb σ H es) (hl : ds.length + es.length ≤ sizeLine) : EL K b (tOp rCat ta tb) σ H (ds ++ es) := fun H1 x1 Q q =>
  ha H1 x1 _ fun p1 us H2 x2 hp1 h2 hu => hb H2 (x1.trans x2) _ fun p3 ws H3 x3 hp3 h3 hw => ⟨p1, p3, us, ws, rfl, rfl, x3 _ _ h2, h3, by rw [dps_len hu, dps_len hw]; exact hl, fun p2 hp2 => q p2 _ _ ((x2.trans x3).trans (Ex.new hp2)) (by
    cases z : H1 p2 with
    | none => rfl
    | some o => rw [x3 _ _ (x2 _ _ z)] at hp2; cases hp2) upd_same (DqAll.up (dps_app (DqAll.up hu x3) hw) (Ex.new hp2))⟩
/-- sorted(set(texts)) -/
theorem el_sortSet {P : Program} {w : World} {xs : List Str} (ha : ED K b ta σ H (.list (xs.map .str))) (hl : xs.length < 64) : EL K b (tCB (rSortT P w) (tCons (tCB (rSetT K P w) (tCons ta tNil)) tNil)) σ H ((srtS (uq xs)).map .str) := fun H1 x1 Q q =>
  ha H1 x1 _ fun v H2 x2 hv => by
    cases hv with
    | lst g1 g2 =>
      have e := dps_strs g2
      subst e
      refine ⟨_, xs, rfl, .inl (ex_l hid_le g1), by omega, fun p hp => ⟨p, uq xs, rfl, upd_same, Nat.lt_of_le_of_lt (uq_length_le xs) hl, fun ys p2 pm so hp2 => ?_⟩⟩
      rw [srtS_eq pm so]
      have x3 := (Ex.new (o := SetTO P w p (uq xs)) hp).trans (Ex.new (o := HO.lst ((srtS (uq xs)).map V.str)) hp2)
      refine q p2 _ _ (x2.trans x3) ?_ upd_same (strs_dps _)
      cases z : H1 p2 with
      | none => rfl
      | some o => rw [Ex.new hp _ _ (x2 _ _ z)] at hp2; cases hp2
/-- sorted(list of texts) -/
theorem el_sortL {xs : List Str} (ha : ED K b ta σ H (.list (xs.map .str))) (hl : xs.length < 64) : EL K b (tCB (rSortedS K) (tCons ta tNil)) σ H ((srtS xs).map .str) := fun H1 x1 Q q =>
  ha H1 x1 _ fun v H2 x2 hv => by
    cases hv with
    | lst g1 g2 =>
      have e := dps_strs g2
      subst e
      refine ⟨_, xs, rfl, ex_l hid_le g1, hl, fun ys p2 pm so hp2 => ?_⟩
      rw [srtS_eq pm so]
      refine q p2 _ _ (x2.trans (Ex.new hp2)) ?_ upd_same (strs_dps _)
      cases z : H1 p2 with
      | none => rfl
      | some o => rw [x2 _ _ z] at hp2; cases hp2
theorem lc_flatR {J : It} {n : Nat} {G : Hp → Prop} {xs : List V} {H2 : Hp} {k : Nat} {g : Nat → PyData} {p : Nat → Bool} (W : Walk J n G (YAt xs)) (hn : n = xs.length) (hl : n < sizeLine) (kn : Kn b H2) (hG : ∀ H3, Ex H2 H3 → G H3)
    (hp : ∀ i x H3, xs[i]? = some x → Ex H2 H3 → EvT tt ((wipe σ [k]).set k (some x)) H3 (p i))
    (he : ∀ i x H3, xs[i]? = some x → p i = true → Ex H2 H3 → ED K b te ((wipe σ [k]).set k (some x)) H3 (g i)) (hf : ∀ i, i < n → p i = true → flatP (g i) = true)
    {Q : VK} (D : Addr) (hD : H2 D = none) (q : ∀ H3, Ex H2 H3 → H3 D = some (.lst ((((List.range n).filter p).map g).map vOf)) → Q (.ref D) H3) :
    ∃ W : Nat → Nat → Hp → Prop, (∃ m, W 0 m (upd H2 D (.lst []))) ∧ ∀ i m H, W i m H →
      (J.stop i H ∧ Q (.ref D) H) ∨ (J.go i H ∧ ∃ Nx : Hp → Prop, (∀ H', Nx H' → ∃ m', m' < m ∧ W (i + 1) m' H') ∧ ∀ x H', J.yld i H x H' → gName k x (wipe σ [k]) H' fun σ2 H2 => wipe σ2 [k] = wipe σ [k] ∧ tt σ2 H2 fun b H3 =>
        if b = true then te σ2 H3 fun y H4 => ∃ acc, H4 D = some (.lst acc) ∧ acc.length < sizeLine ∧ Nx (upd H4 D (.lst (acc ++ [y]))) else Nx H3) := by
  refine lc_it W (fun i H3 => Ex H2 H3 ∧ H3 D = some (.lst ((((List.range i).filter p).map g).map vOf))) ⟨Ex.new hD, upd_same⟩ (fun i H3 _ h => hG H3 h.1) ?_ ?_
  · intro i x H3 H3' hi ⟨x3, e3⟩ ⟨e1, hx⟩
    subst e1
    refine ⟨wipe_set1, hp i x H3' hx x3 H3' (Ex.refl _) _ fun H4 x4 => ?_⟩
    have er : ∀ c, p i = c → (List.range (i + 1)).filter p = (List.range i).filter p ++ (if c = true then [i] else []) := fun c hc => by
      rw [List.range_succ, List.filter_append]
      cases c with
      | true => simp [hc]
      | false => simp [hc]
    cases hpi : p i with
    | false =>
      rw [if_neg Bool.false_ne_true]
      refine ⟨x3.trans x4, ?_⟩
      rw [er false hpi, if_neg Bool.false_ne_true, List.append_nil]
      exact x4 _ _ e3
    | true =>
      rw [if_pos rfl]
      refine he i x H4 hx hpi (x3.trans x4) H4 (Ex.refl _) _ fun y H5 x5 hy => ?_
      have ey := dp_flat hy (hf i hi hpi)
      refine ⟨_, x5 _ _ (x4 _ _ e3), ?_, Ex.mut (x3.trans (x4.trans x5)) hD, ?_⟩
      · rw [List.length_map, List.length_map]
        have := List.length_filter_le p (List.range i)
        rw [List.length_range] at this
        omega
      · rw [upd_same, er true hpi, if_pos rfl, List.map_append, List.map_append, ey]
        rfl
  · intro H3 ⟨x3, e3⟩
    exact q H3 x3 e3
theorem el_lcT {k : Nat} {f : PyData → PyData} {p : PyData → Bool} (kn : Kn b H) (ha : ED K b ta σ H (.tuple ds)) (hl : ds.length < sizeLine)
    (hp : ∀ d v H3, d ∈ ds → Ex H H3 → Dq K b H3 v d → EvT tt ((wipe σ [k]).set k (some v)) H3 (p d))
    (he : ∀ d v H3, d ∈ ds → p d = true → Ex H H3 → Dq K b H3 v d → ED K b te ((wipe σ [k]).set k (some v)) H3 (f d)) (hf : ∀ d ∈ ds, p d = true → flatP (f d) = true) :
    EL K b (tLc (iTup K ta) (gName k) tt te [k]) σ H ((ds.filter p).map f) := fun H1 x1 Q q =>
  ha H1 x1 _ fun x H2 x2 hx => by
    cases hx with
    | @tup a xs _ h1 _ h2 =>
      have hlen := dps_len h2
      have at_ : ∀ i x, xs[i]? = some x → ∃ d, ds[i]? = some d ∧ d ∈ ds ∧ Dq K b H2 x d := fun i x hx => by
        obtain ⟨d, g1, g2⟩ := dps_at h2 hx
        exact ⟨d, g1, List.mem_of_getElem? g1, g2⟩
      refine ⟨a, rfl, ⟨xs, ex_t hid_le h1⟩, fun D hD => lc_flatR (K := K) (b := b) (g := fun i => f (ds.getD i .none)) (p := fun i => p (ds.getD i .none)) walk_tup rfl (by rw [hlen]; exact hl) (kn.up (x1.trans x2)) (fun H3 x3 => ex_t x3 (ex_t hid_le h1)) ?_ ?_ ?_ D hD ?_⟩
      · intro i x H3 hx x3
        obtain ⟨d, g1, g2, g3⟩ := at_ i x hx
        simp only [List.getD_eq_getElem?_getD, g1, Option.getD_some]
        exact hp d x H3 g2 ((x1.trans x2).trans x3) (g3.up x3)
      · intro i x H3 hx hpi x3
        obtain ⟨d, g1, g2, g3⟩ := at_ i x hx
        simp only [List.getD_eq_getElem?_getD, g1, Option.getD_some] at hpi ⊢
        exact he d x H3 g2 hpi ((x1.trans x2).trans x3) (g3.up x3)
      · intro i hi hpi
        have hi' : i < ds.length := by omega
        have g1 : ds[i]? = some ds[i] := List.getElem?_eq_getElem hi'
        simp only [List.getD_eq_getElem?_getD, g1, Option.getD_some] at hpi ⊢
        exact hf _ (List.getElem_mem hi') hpi
      · intro H3 x3 e3
        rw [hlen] at e3
        rw [range_filter_map f p ds _ _ fun i d hd => ⟨by simp only [List.getD_eq_getElem?_getD, hd, Option.getD_some], fun _ => by simp only [List.getD_eq_getElem?_getD, hd, Option.getD_some]⟩] at e3
        refine q D _ H3 (x2.trans x3) ?_ e3 (flats_dp fun d hd => ?_)
        · cases z : H1 D with
          | none => rfl
          | some o => rw [x2 _ _ z] at hD; cases hD
        · obtain ⟨e, he', rfl⟩ := List.mem_map.mp hd
          obtain ⟨m1, m2⟩ := List.mem_filter.mp he'
          exact hf e m1 m2
end
end Wr

set_option Elab.async false
set_option linter.all false
set_option maxRecDepth 100000
set_option maxHeartbeats 4000000
namespace Wr
open PySem PySem.Spec PyProof.Rows L2 Evl
/-! ### a program, part by part -/
structure PartV where
  x : Str
  ns : List Str
  rs : List PyData
def PartV.d (p : PartV) : PyData := .tuple [.str p.x, .tuple (p.ns.map .str), .tuple p.rs]
def RowV (r : PyData) : Prop := ∃ w rest, r = .tuple (.str w :: rest) ∧ PyData.strOk w = true ∧ (w ∈ nameW ∨ w = "call" → ∃ y, rest = [.str y] ∧ PyData.strOk y = true)
structure PrgV (ds : List PyData) (ps : List PartV) : Prop where
  e : ds = ps.map PartV.d
  l0 : 1 ≤ ps.length
  l8 : ps.length ≤ 8
  xs : ∀ p ∈ ps, PyData.strOk p.x = true
  ns : ∀ p ∈ ps, p.ns.length ≤ 3 ∧ p.ns.all PyData.strOk = true
  rs : ∀ p ∈ ps, p.rs.length ≤ 60 ∧ ∀ r ∈ p.rs, RowV r
  nd : (ps.map PartV.x).Nodup
theorem eqv_strR {a : PyData} {x : Str} (h : PyData.eqv a (.str x) = true) : a = .str x := by
  cases a with
  | str y =>
    rw [strEq] at h
    have e : y = x := of_decide_eq_true h
    rw [e]
  | none => simp [PyData.eqv] at h
  | bool _ => simp [PyData.eqv] at h
  | int _ => simp [PyData.eqv] at h
  | list _ => simp [PyData.eqv] at h
  | tuple _ => simp [PyData.eqv] at h
  | dict _ => simp [PyData.eqv] at h
theorem inD_of {a : PyData} {ws : List Str} (h : inD a (ws.map .str) = true) : ∃ w, a = .str w ∧ w ∈ ws := by
  cases hs : isD "str" a with
  | false =>
    rw [inD_nstr hs] at h
    cases h
  | true =>
    cases a with
    | str y =>
      rw [inD_str] at h
      exact ⟨y, rfl, of_decide_eq_true h⟩
    | none => simp [isD, dTy, tyIs] at hs
    | bool _ => simp [isD, dTy, tyIs] at hs
    | int _ => simp [isD, dTy, tyIs] at hs
    | list _ => simp [isD, dTy, tyIs] at hs
    | tuple _ => simp [isD, dTy, tyIs] at hs
    | dict _ => simp [isD, dTy, tyIs] at hs
theorem nameD_of {c : PyData} (h : nameD c = true) : ∃ y, c = .str y ∧ nameS y = true := by
  cases c with
  | str y => exact ⟨y, rfl, h⟩
  | none => cases h
  | bool _ => cases h
  | int _ => cases h
  | list _ => cases h
  | tuple _ => cases h
  | dict _ => cases h
theorem words_ok {z : Str} (h : z ∈ (["put", "call"] : List Str) ++ loneW ++ nameW ++ rowW) : PyData.strOk z = true := by
  have q : (((["put", "call"] : List Str) ++ loneW ++ nameW ++ rowW).all PyData.strOk) = true := by decide +kernel
  exact List.all_eq_true.mp q z h
theorem row_view {r : PyData} {i m : Int} {xs : List Str} (hx : xs.all PyData.strOk = true) (h : rowD r i m xs = true) : RowV r := by
  unfold rowD at h
  split at h
  · rename_i a
    obtain ⟨w, rfl, hw⟩ := inD_of h
    refine ⟨w, [], rfl, words_ok (List.mem_append_left _ (List.mem_append_left _ (List.mem_append_right _ hw))), fun z => ?_⟩
    exfalso
    have q : (loneW.all fun w => !decide (w ∈ nameW) && !decide (w = "call")) = true := by decide +kernel
    have := List.all_eq_true.mp q w hw
    rw [Bool.and_eq_true, Bool.not_eq_true', Bool.not_eq_true'] at this
    rcases z with z | z
    · exact of_decide_eq_false this.1 z
    · exact of_decide_eq_false this.2 z
  · rename_i a c
    split at h
    · rename_i h1
      have e := eqv_strR h1
      subst e
      refine ⟨_, _, rfl, by decide +kernel, fun z => ?_⟩
      rcases z with z | z <;> exact absurd z (by decide +kernel)
    · split at h
      · rename_i h2
        obtain ⟨w, rfl, hw⟩ := inD_of h2
        obtain ⟨y, rfl, hy⟩ := nameD_of h
        exact ⟨w, _, rfl, words_ok (List.mem_append_left _ (List.mem_append_right _ hw)), fun _ => ⟨y, rfl, name_strOk hy⟩⟩
      · split at h
        · rename_i h3
          have e := eqv_strR h3
          subst e
          obtain ⟨y, rfl, hy⟩ := inD_of h
          exact ⟨_, _, rfl, by decide +kernel, fun _ => ⟨y, rfl, List.all_eq_true.mp hx y hy⟩⟩
        · rename_i h2 h3
          rw [Bool.and_eq_true] at h
          obtain ⟨w, rfl, hw⟩ := inD_of h.1
          refine ⟨w, _, rfl, words_ok (List.mem_append_right _ hw), fun z => ?_⟩
          exfalso
          rcases z with z | z
          · rw [inD_str] at h2
            exact h2 (decide_eq_true z)
          · subst z
            exact h3 (by rw [strEq]; exact decide_eq_true rfl)
  · cases h
theorem strs_of_names {ds : List PyData} (h : ds.all nameD = true) : ∃ ns : List Str, ds = ns.map .str ∧ ns.all nameS = true := by
  induction ds with
  | nil => exact ⟨[], rfl, rfl⟩
  | cons d r ih =>
    rw [List.all_cons, Bool.and_eq_true] at h
    obtain ⟨y, rfl, hy⟩ := nameD_of h.1
    obtain ⟨ns, rfl, hn⟩ := ih h.2
    exact ⟨y :: ns, rfl, by rw [List.all_cons, hy, hn]; rfl⟩
theorem part_view {d : PyData} {xs : List Str} (hx : xs.all PyData.strOk = true) (h1 : headed2D d = true) (h2 : partD d xs = true) : ∃ p : PartV, d = p.d ∧ PyData.strOk p.x = true ∧ (p.ns.length ≤ 3 ∧ p.ns.all PyData.strOk = true) ∧ p.rs.length ≤ 60 ∧ ∀ r ∈ p.rs, RowV r := by
  obtain ⟨a, c, e, rfl, hn⟩ := headed2_of h1
  obtain ⟨x, rfl, hx1⟩ := nameD_of hn
  have h2' : (namesD c && rowsD e xs) = true := h2
  rw [Bool.and_eq_true] at h2'
  obtain ⟨g1, g2⟩ := h2'
  unfold namesD at g1
  split at g1
  · rename_i ds
    rw [Bool.and_eq_true, Bool.and_eq_true] at g1
    obtain ⟨ns, rfl, hns⟩ := strs_of_names g1.2.1
    have l3 := of_decide_eq_true g1.1
    rw [List.length_map] at l3
    unfold rowsD at g2
    split at g2
    · rename_i rs
      rw [Bool.and_eq_true, Bool.and_eq_true] at g2
      refine ⟨⟨x, ns, rs⟩, rfl, name_strOk hx1, ⟨l3, List.all_eq_true.mpr fun y hy => name_strOk (List.all_eq_true.mp hns y hy)⟩, of_decide_eq_true g2.1.2, fun r hr => ?_⟩
      obtain ⟨i, hi, e⟩ := List.mem_iff_getElem.mp hr
      have := List.all_eq_true.mp g2.2 i (List.mem_range.mpr hi)
      rw [List.getD_eq_getElem?_getD, List.getElem?_eq_getElem hi, Option.getD_some, e] at this
      exact row_view hx this
    · cases g2
  · cases g1
theorem parts_view {xs : List Str} (hx : xs.all PyData.strOk = true) : ∀ {ds : List PyData}, ds.all headed2D = true → (ds.all fun p => partD p xs) = true → ∃ ps : List PartV, ds = ps.map PartV.d ∧ ∀ p ∈ ps, PyData.strOk p.x = true ∧ (p.ns.length ≤ 3 ∧ p.ns.all PyData.strOk = true) ∧ p.rs.length ≤ 60 ∧ ∀ r ∈ p.rs, RowV r
  | [], _, _ => ⟨[], rfl, fun p h => nomatch h⟩
  | d :: ds, h1, h2 => by
    rw [List.all_cons, Bool.and_eq_true] at h1 h2
    obtain ⟨p, rfl, g⟩ := part_view hx h1.1 h2.1
    obtain ⟨ps, rfl, gs⟩ := parts_view hx h1.2 h2.2
    refine ⟨p :: ps, rfl, fun q hq => ?_⟩
    rcases List.mem_cons.mp hq with rfl | hq
    · exact g
    · exact gs q hq
theorem prg_view {d : PyData} (h : progD d = true) : ∃ ds ps, d = .tuple ds ∧ PrgV ds ps := by
  cases d with
  | tuple ds =>
    rw [prog_two, Bool.and_eq_true, Bool.and_eq_true, Bool.and_eq_true] at h
    obtain ⟨h1, h2, h3, h4⟩ := h
    have hst : (ds.map fst).all (isD "str") = true := List.all_eq_true.mpr fun x hx => by
      obtain ⟨e, he, rfl⟩ := List.mem_map.mp hx
      obtain ⟨a, c, z, rfl, hn⟩ := headed2_of (List.all_eq_true.mp h2 e he)
      exact nameD_str hn
    have hx : (strsOf (ds.map fst)).all PyData.strOk = true := List.all_eq_true.mpr fun x hx => by
      have : PyData.str x ∈ ds.map fst := by
        rw [← map_strsOf hst]
        exact List.mem_map.mpr ⟨x, hx, rfl⟩
      obtain ⟨e, he, ex⟩ := List.mem_map.mp this
      obtain ⟨a, c, z, rfl, hn⟩ := headed2_of (List.all_eq_true.mp h2 e he)
      have ea : a = .str x := ex
      subst ea
      exact name_strOk hn
    obtain ⟨ps, rfl, g⟩ := parts_view hx h2 h4
    have hl := of_decide_eq_true h1
    rw [List.length_map] at hl
    refine ⟨_, ps, rfl, rfl, hl.1, by omega, fun p hp => (g p hp).1, fun p hp => (g p hp).2.1, fun p hp => (g p hp).2.2, ?_⟩
    have e1 : (ps.map PartV.d).map fst = (ps.map PartV.x).map .str := by
      rw [List.map_map, List.map_map]
      rfl
    rw [e1, strsOf_map] at h3
    unfold unlikeS at h3
    exact (uq_len_iff _).mp (of_decide_eq_true h3)
  | none => cases h
  | bool _ => cases h
  | int _ => cases h
  | str _ => cases h
  | list _ => cases h
  | dict _ => cases h
end Wr

set_option Elab.async false
set_option linter.all false
set_option maxRecDepth 100000
set_option maxHeartbeats 4000000
namespace Wr
open PySem PySem.Spec PyProof.Rows L2 Evl
structure Blt3 (mg : Str → Option Value) : Prop where
  sorted : mg "sorted" = none
abbrev s_check : Stmt := topS 35
abbrev s_place : Stmt := topS 36
theorem sc_check : FnScope ["thing"] ["thing"] (defScope s_check) := ⟨rfl, rfl, rfl, by decide +kernel, rfl, by decide +kernel, by decide +kernel⟩
abbrev NPl : List Str := ["program", "part", "number", "name", "names", "rows"]
theorem sc_place : FnScope NPl ["program", "part"] (defScope s_place) := ⟨rfl, rfl, rfl, by decide +kernel, rfl, by decide +kernel, by decide +kernel⟩
abbrev NNi : List Str := ["program", "part", "name", "names", "rows", "told", "row"]
abbrev NCs : List Str := ["program", "name", "names", "rows"]
/-- what is never reached wants nothing -/
theorem ps_off {X : Cx} {st : Stmt} : PS X st (fun _ _ _ => False) := ⟨fun _ _ _ _ _ _ h => h.elim⟩
def posV (ps : List PartV) (part : PyData) : Option Nat := ps.findIdx? fun p => PyData.eqv (.str p.x) part
def spPl (K : PySem.W.Frag) (C : Addr) : Sp := fun vs H Q E => ∃ (b : List Addr) (ds : List PyData) (ps : List PartV) (part : PyData), Kn b H ∧ DqAll K b H vs [.tuple ds, part] ∧ PrgV ds ps ∧ okD 30 part = true ∧
  (∀ i, posV ps part = some i → ∀ H', Ex H H' → Q (.int (i : Nat)) H') ∧ (posV ps part = none → XP K C b H part E)
section
variable {P : Program} {w : World} {K : PySem.W.Frag} {mg : Str → Option Value} {base : Heap} {f g g2 C fI : Addr} {fd gd gd2 fdI : FuncData}
theorem ok_check (D : Def K mg "check_program" s_check ["thing"] f fd) {st : Stmt} (D1 : Def K mg "is_program" st ["thing"] g gd) (G1 : FnOk P w K mg base CX0 5 g gd ["thing"] (spP K ProgPre (F1 progD))) :
    FnOk P w K mg base CX0 6 f fd ["thing"] (spP K (fun ds => ds.length = 1 ∧ ∀ d, ds = [d] → okD 30 d = true ∧ progD d = true) fun _ => .none) := by
  refine D.F.ok sc_check (fun vs H Q E h => spP_len (fun _ h => h.1) h) (fun cdv A outer s H vs Q E hr h => ?_)
  obtain ⟨b, ds, kn, hd, ⟨hp, hok⟩, q⟩ := h
  obtain ⟨v, d, rfl, rfl, h1⟩ := one_of hd hp
  obtain ⟨ho, hpr⟩ := hok d rfl
  refine ⟨_, pss_one (ps_if (pt_not (pt_val (pe_cd D1 G1 hr (pa_cons (pv 0) pa_nil)))) (pss_one ps_off) pss_nil), ?_⟩
  have t1 := et_n (et_b (ed_call (K := K) (b := b) (σ := start ["thing"] [v]) (H := H) (pre := ProgPre) (f := F1 progD) (E := E0) kn (ea_cons (ed_var (i := 0) rfl h1) ea_nil) ⟨rfl, fun d' e => by cases e; exact ho⟩))
  refine t1 H (Ex.refl H) _ fun H1 x1 => ?_
  rw [hpr]
  show ite (false = true) _ _
  rw [if_neg Bool.false_ne_true]
  exact q _ H1 x1 .non
theorem ok_place (D : Def K mg "place_of" s_place ["program", "part"] f fd) (T : NpC K mg C fI fdI) (D1 : Def K mg "own_copy" s_copy ["thing"] g gd) (B : Blt mg) : FnOk P w K mg base (L2.CX P w) 4 f fd ["program", "part"] (spPl K C) := by
  refine D.F.okX sc_place (fun vs H Q E ⟨b, ds, ps, part, _, hd, _⟩ => by rw [dps_len hd]; rfl) (fun cdv A outer s H vs Q E hr h => ?_)
  obtain ⟨b, ds, ps, part, kn, hd, pv', hok, q1, q2⟩ := h
  obtain ⟨v, v2, d1, d2, rfl, ed, h1, h2⟩ := two_of hd rfl
  cases ed
  refine ⟨_, pss_cons (ps_for (passes_of rfl) rfl (pi_enumT rfl B.enum (pa_cons (pv 0) pa_nil)) (pg_tup rfl (pgs_cons (pg_name (i := 2) sc_place.nd rfl (Or.inl rfl)) (pgs_cons (pg_tup rfl (pgs_cons (pg_name (i := 3) sc_place.nd rfl (Or.inl rfl)) (pgs_cons (pg_name (i := 4) sc_place.nd rfl (Or.inl rfl)) (pgs_cons (pg_name (i := 5) sc_place.nd rfl (Or.inl rfl)) pgs_nil)))) pgs_nil)))
      (pss_one (ps_if (pt_cmpR (op_eqD (hu64 hr)) (pv 3) (pv 1) (nomark _)) (pss_one (ps_ret (pv 2))) pss_nil)))
    (pss_one (ps_np (W := fun cls d _ H => E cls d H) T D1 B rfl (takes_of rfl rfl rfl rfl) hr (pv 1))), ?_⟩
  have e1 := pv'.e
  have h1c := h1
  cases h1c with
  | @tup a xs _ g1 gn g2 =>
  have hl := dps_len g2
  have hlen : ds.length = ps.length := by rw [e1, List.length_map]
  have shp := ok_shaped hok
  refine ⟨.ref a, rfl, a, xs, rfl, ex_t hid_le g1, ?_⟩
  refine for_it walk_enumT (fun i σ' H' => (∃ y2 y3 y4 y5, σ' = [some (.ref a), some v2, y2, y3, y4, y5]) ∧ Ex H H' ∧ ∀ j, j < i → ∀ p, ps[j]? = some p → PyData.eqv (.str p.x) part = false) ⟨⟨none, none, none, none, rfl⟩, Ex.refl H, fun j hj => by omega⟩ (fun i σ' H' _ p => ex_t p.2.1 (ex_t hid_le g1)) ?_ ?_
  · intro i x σ' H' H2 hi ⟨⟨y2, y3, y4, y5, eσ⟩, xH, hno⟩ ⟨T', y1, yy, ex, nT, eH, e3, e4⟩
    subst eσ ex eH
    have e3' : y1 = .int (i : Nat) := (Option.some.inj e3).symm
    subst e3'
    obtain ⟨d, gd', dd⟩ := dps_at g2 e4
    have hp : ∃ p, ps[i]? = some p ∧ d = p.d := by
      rw [e1, List.getElem?_map] at gd'
      cases z : ps[i]? with
      | none => rw [z] at gd'; cases gd'
      | some p =>
        rw [z] at gd'
        exact ⟨p, rfl, (Option.some.inj gd').symm⟩
    obtain ⟨p, hp, rfl⟩ := hp
    have xT : Ex H' (upd H' T' (.tup [.int (i : Nat), yy])) := Ex.new nT
    have x2 := xH.trans xT
    have dd2 : Dq K b (upd H' T' (.tup [.int (i : Nat), yy])) yy p.d := Dq.up dd x2
    cases dd2 with
    | @tup a2 xs2 _ k1 kn2 k2 =>
    cases k2 with
    | @cons v3 _ _ _ m1 k2 =>
    cases k2 with
    | @cons v4 _ _ _ m2 k2 =>
    cases k2 with
    | @cons v5 _ _ _ m3 k2 =>
    cases k2
    refine ⟨T', [.int (i : Nat), .ref a2], rfl, .inl (.inl upd_same), rfl, .int (i : Nat), [.ref a2], rfl, .ref a2, [], rfl, ⟨a2, [v3, v4, v5], rfl, ex_t hid_le k1, rfl, v3, [v4, v5], rfl, v4, [v5], rfl, v5, [], rfl, rfl, rfl, ?_⟩⟩
    have t1 := et_t (ed_eq (K := K) (b := b) (σ := [some (.ref a), some v2, some (.int (i : Nat)), some v3, some v4, some v5]) (ed_var (i := 3) rfl m1) (ed_var (i := 1) rfl (Dq.up h2 x2)) (sh_str (pv'.xs p (List.mem_of_getElem? hp))) shp)
    refine t1 _ (Ex.refl _) _ fun H3 x3 => ?_
    cases hq : PyData.eqv (.str p.x) part with
    | true =>
      rw [if_pos rfl]
      refine ⟨.int (i : Nat), rfl, q1 i ?_ H3 (x2.trans x3)⟩
      unfold posV
      rw [List.findIdx?_eq_some_iff_getElem]
      have hi' : i < ps.length := (List.getElem?_eq_some_iff.mp hp).1
      have ep : ps[i] = p := (List.getElem?_eq_some_iff.mp hp).2
      refine ⟨hi', by rw [ep]; exact hq, fun j hj => ?_⟩
      rw [hno j hj ps[j] (List.getElem?_eq_getElem (by omega))]
      exact Bool.false_ne_true
    | false =>
      rw [if_neg Bool.false_ne_true]
      refine ⟨⟨_, _, _, _, rfl⟩, x2.trans x3, fun j hj p' hp' => ?_⟩
      by_cases e : j = i
      · subst e
        rw [hp] at hp'
        cases hp'
        exact hq
      · exact hno j (by omega) p' hp'
  · intro σ' H' ⟨⟨y2, y3, y4, y5, eσ⟩, xH, hno⟩
    subst eσ
    have hn : posV ps part = none := by
      unfold posV
      rw [List.findIdx?_eq_none_iff]
      intro p hp
      obtain ⟨j, hj, e⟩ := List.mem_iff_getElem.mp hp
      exact hno j (by omega) p (by rw [List.getElem?_eq_getElem hj, e])
    refine mk_np T.T T.n (kn.up xH) (ed_var (i := 1) rfl (Dq.up h2 xH)) hok fun dx y Hf hdx xf hf hy => q2 hn dx y Hf ?_ (xH.trans xf) hf hy
    cases z : H dx with
    | none => rfl
    | some o => rw [xH _ _ z] at hdx; cases hdx
end
end Wr

set_option Elab.async false
set_option linter.all false
set_option maxRecDepth 100000
set_option maxHeartbeats 4000000
namespace Wr
open PySem PySem.Spec PyProof.Rows L2 HotX L2H
/-! ### a list walked to its end while an exception is handled -/
theorem end_hot {prog : Program} {w : World} {A : Around} {E : Value → Shared → Prop} {s : Shared} {it l x1 : Addr} {i : Nat} {items : Array Value} {Q : Option Value → Shared → Prop} (hot : HotAt A x1 s.heap) (nx : x1 ≠ it) (st : s.heap.IsListIter it l i) (hl : s.heap.IsList l items) (out : items[i]? = none)
    (q : ∀ h', (∀ b o, b ≠ it → s.heap.get? b = some o → h'.get? b = some o) → Q none { s with heap := h' }) : wpAny (model prog w) A (pyNext (.ref it)) Q E s := by
  have ty := st.typeIs
  obtain ⟨hh, o1, vs1, g1, d1, c1⟩ := hot
  obtain ⟨oi, gi, ci, di⟩ := st
  obtain ⟨ol, gl, _, nl, dl⟩ := hl
  unfold pyNext
  refine wpAny_bind (wpAny_attempt (wpAny_callSpecial?_slot (name := Str.ofString "__next__") ty slot_listiter_next (wpAny_call_entry slot_listiter_next ty entry_listiter_next ?_ (args_listiter_next _))))
  show wpAny _ _ (field (.ref it) 0 >>= _) _ _ s
  refine wpAny_bind (wpAny_field gi di (x := .ref l) rfl ?_)
  show wpAny _ _ (if (Value.ref l == Value.none) = true then _ else _) _ _ s
  have nb : ¬ (Value.ref l == Value.none) = true := Bool.false_ne_true
  rw [if_neg nb]
  show wpAny _ A.in1 (field (.ref it) 1 >>= _) _ _ s
  refine wpAny_bind (wpAny_field gi di (x := .int i 0) rfl ?_)
  show wpAny _ A.in1 (seqItems? (.ref l) >>= _) _ _ s
  refine wpAny_bind (wpAny_seqItems gl dl ?_)
  simp only [Int.toNat_natCast, out]
  refine wpAny_bind (wpAny_rule (wpAny_bind (wpAny_setField gi di (by simp) ?_)))
  show wpAny _ A.in1 (newExc (.type "StopIteration") [] >>= _) _ _ _
  refine wpAny_bind ?_
  simp only [newExc, newTuple]
  refine wpAny_bind (wpAny_newObj_type (wpAny_bind (m := firstArgMember _ _) (wpAny_of_eq (a := Value.none) (by first | rfl | (simp only [firstArgMember]; rfl)) (wpAny_newObj_type ?_ (by size_fits)))) (by size_fits))
  have g1' : (s.heap.update it (Obj.mapFields (·.setIfInBounds 0 Value.none))).get? x1 = some o1 := by rw [Heap.get?_update_other _ _ (Ne.symm nx)]; exact g1
  refine raiseNew_hot ⟨hh, o1, vs1, Heap.get?_push_of_some _ (Heap.get?_push_of_some _ g1'), d1, c1⟩ (Nat.ne_of_lt (Heap.lt_size (Heap.get?_push_of_some _ g1'))) (Heap.get?_push_size _ rfl) rfl (by first | (simp; done) | (simp; omega)) ?_
  refine wpAny_bind (wpAny_isInstance (b := true) (T := "StopIteration") ⟨_, Heap.get?_update_self _ (Heap.get?_push_size _ rfl) rfl, rfl⟩ isSubtype_stop (wpAny_pure (q _ fun b o ne e => ?_)))
  have e1 : (s.heap.update it (Obj.mapFields (·.setIfInBounds 0 Value.none))).get? b = some o := by rw [Heap.get?_update_other _ _ (Ne.symm ne)]; exact e
  rw [Heap.get?_update_other _ _ (Nat.ne_of_gt (Heap.lt_size (Heap.get?_push_of_some _ e1)))]
  exact Heap.get?_push_of_some _ (Heap.get?_push_of_some _ e1)
theorem end_hotT {prog : Program} {w : World} {A : Around} {E : Value → Shared → Prop} {s : Shared} {it l x1 : Addr} {i : Nat} {items : Array Value} {Q : Option Value → Shared → Prop} (hot : HotAt A x1 s.heap) (nx : x1 ≠ it) (st : s.heap.IsTupleIter it l i) (hl : s.heap.IsTuple l items) (out : items[i]? = none)
    (q : ∀ h', (∀ b o, b ≠ it → s.heap.get? b = some o → h'.get? b = some o) → Q none { s with heap := h' }) : wpAny (model prog w) A (pyNext (.ref it)) Q E s := by
  have ty := st.typeIs
  obtain ⟨hh, o1, vs1, g1, d1, c1⟩ := hot
  obtain ⟨oi, gi, ci, di⟩ := st
  obtain ⟨ol, gl, _, nl, dl⟩ := hl
  unfold pyNext
  refine wpAny_bind (wpAny_attempt (wpAny_callSpecial?_slot (name := Str.ofString "__next__") ty F.slot_tuple_iterator_next (wpAny_call_entry F.slot_tuple_iterator_next ty F.entry_tuple_iterator_next ?_ (F.args_tuple_iterator_next_1 _))))
  show wpAny _ A.in1 (field (.ref it) 0 >>= _) _ _ s
  refine wpAny_bind (wpAny_field gi di (x := .ref l) rfl ?_)
  show wpAny _ A.in1 (if (Value.ref l == Value.none) = true then _ else _) _ _ s
  have nb : ¬ (Value.ref l == Value.none) = true := Bool.false_ne_true
  rw [if_neg nb]
  show wpAny _ A.in1 (field (.ref it) 1 >>= _) _ _ s
  refine wpAny_bind (wpAny_field gi di (x := .int i 0) rfl ?_)
  show wpAny _ A.in1 (seqItems? (.ref l) >>= _) _ _ s
  refine wpAny_bind (wpAny_seqItems gl dl ?_)
  simp only [Int.toNat_natCast, out]
  refine wpAny_bind (wpAny_rule (wpAny_bind (wpAny_setField gi di (by simp) ?_)))
  show wpAny _ A.in1 (newExc (.type "StopIteration") [] >>= _) _ _ _
  refine wpAny_bind ?_
  simp only [newExc, newTuple]
  refine wpAny_bind (wpAny_newObj_type (wpAny_bind (m := firstArgMember _ _) (wpAny_of_eq (a := Value.none) (by first | rfl | (simp only [firstArgMember]; rfl)) (wpAny_newObj_type ?_ (by size_fits)))) (by size_fits))
  have g1' : (s.heap.update it (Obj.mapFields (·.setIfInBounds 0 Value.none))).get? x1 = some o1 := by rw [Heap.get?_update_other _ _ (Ne.symm nx)]; exact g1
  refine raiseNew_hot ⟨hh, o1, vs1, Heap.get?_push_of_some _ (Heap.get?_push_of_some _ g1'), d1, c1⟩ (Nat.ne_of_lt (Heap.lt_size (Heap.get?_push_of_some _ g1'))) (Heap.get?_push_size _ rfl) rfl (by first | (simp; done) | (simp; omega)) ?_
  refine wpAny_bind (wpAny_isInstance (b := true) (T := "StopIteration") ⟨_, Heap.get?_update_self _ (Heap.get?_push_size _ rfl) rfl, rfl⟩ isSubtype_stop (wpAny_pure (q _ fun b o ne e => ?_)))
  have e1 : (s.heap.update it (Obj.mapFields (·.setIfInBounds 0 Value.none))).get? b = some o := by rw [Heap.get?_update_other _ _ (Ne.symm ne)]; exact e
  rw [Heap.get?_update_other _ _ (Nat.ne_of_gt (Heap.lt_size (Heap.get?_push_of_some _ e1)))]
  exact Heap.get?_push_of_some _ (Heap.get?_push_of_some _ e1)
theorem unpack_hot {prog : Program} {w : World} {A : Around} {E : Value → Shared → Prop} {s : Shared} {t x1 : Addr} {items : Array Value} {Q : List Value → Shared → Prop} (hot : HotAt A x1 s.heap) (ht : s.heap.IsTuple t items)
    (q : ∀ h', (∀ b o, s.heap.get? b = some o → h'.get? b = some o) → Q items.toList { s with heap := h' }) : wpAny (model prog w) A (unpackItems (.ref t) items.size none) Q E s := by
  have nt : t ≠ s.heap.objs.size := by
    obtain ⟨o, ho, _⟩ := ht
    exact Nat.ne_of_lt (Heap.lt_size ho)
  obtain ⟨hh, o1, vs1, g1, d1, c1⟩ := hot
  have n1 : x1 ≠ s.heap.objs.size := Nat.ne_of_lt (Heap.lt_size g1)
  unfold unpackItems
  refine wpAny_bind ?_
  unfold notIterableAtAll
  refine wpAny_bind (wpAny_specialOf ht.typeIs F.slot_tuple_iter.lookup (wpAny_pure ?_))
  simp only [Bool.false_eq_true, if_false]
  refine wpAny_bind (wpAny_holding (wpAny_pyIter_tuple ht (wpAny_bind (wpAny_holding (wpAny_draw_tuple nt items.size 0 _ _ ⟨_, Heap.get?_push_size _ rfl, rfl, rfl⟩ (ht.push _) (by omega) fun h2 it2 sb2 => ?_)))))
  have all : List.take items.size (List.drop 0 items.toList) = items.toList := by
    rw [List.drop_zero]
    exact List.take_of_length_le (by simp)
  rw [all, if_neg (by simp)]
  have keep : ∀ b o, s.heap.get? b = some o → h2.get? b = some o := fun b o e => (sb2.2 b (Nat.ne_of_lt (Heap.lt_size e))).trans (Heap.get?_push_of_some _ e)
  refine wpAny_bind (wpAny_holding (end_hotT (x1 := x1) ⟨hh, o1, vs1, keep _ _ g1, d1, c1⟩ n1 it2 ((ht.push _).extBut sb2.extBut nt) (by simp) fun h3 k3 => ?_))
  simp only [Option.isSome_none, Bool.false_eq_true, if_false]
  exact wpAny_pure (q h3 fun b o e => k3 b o (Nat.ne_of_lt (Heap.lt_size e)) (keep b o e))
/-- (a, b, ..) = a tuple of that length, while an exception is handled -/
theorem pg_tupH {X : Cx} {es : List Expr} {k : Nat} {t : TGs} {n : Nat} {pos : Pos} (hh : ∀ {pins : List (Addr × Obj)} {σ : L2.St} {H : Hp} {s : Shared}, L2.Inv X pins σ H s → ∃ x1, HotAt X.A x1 s.heap) (h : PGs X es t)
    (hn : (assignEach es X.env).length = n := by rfl) (hst : (assignEach es X.env).findIdx? (·.1) = none := by rfl) : PG X (.Tuple es k pos) (gTup X.K n t) := by
  refine ⟨fun pins s σ H v u Q I r ⟨a, xs, e1, hq, hl, hw⟩ => ?_⟩
  subst e1
  cases r
  obtain ⟨x1, hot⟩ := hh I
  obtain ⟨its, rv, ht, hz⟩ := I.tuple hq
  have sz : (assignEach es X.env).length = its.toArray.size := by rw [hn, List.size_toArray, ← rv.length, hl]
  rw [arm_assign_Tuple]
  refine wpAny_bind (wpAny_standAt ?_)
  unfold unpack
  rw [sz, hst]
  refine wpAny_bind (wpAny_holding (unpack_hot hot (show s.heap.IsTuple a its.toArray from ht) fun h' k => ?_))
  have J : L2.Inv X pins σ H { s with heap := h' } := I.kept (t' := s.toks) k
  exact h.run pins _ σ H xs _ Q J (by simpa using rv) hw
section
variable {X : Cx}
/-- a pinned object stands through a block -/
theorem blk_pin {pins pn' : List (Addr × Obj)} {σ σ' : L2.St} {H H' : Hp} {s s' : Shared} {scope : Scope} {ce : Env} {it : Addr} {p : Addr × Obj} (hp : p ∈ X.pn) (I : L2.Inv X pins σ H s) (ni : p.1 ≠ it) (J : L2.Inv (X.blk s H scope ce [it]) pn' σ' H' s') : s'.heap.get? p.1 = some p.2 := by
  have a := I.pin p (List.mem_append_left _ hp)
  refine J.base.keep p.1 p.2 a.1 a.2.1 (fun hm => ?_) fun hm => ni (List.mem_singleton.mp hm)
  rcases List.mem_cons.mp (I.stkSub p.1 hm) with z | z
  · exact a.2.2.1 z
  · exact a.2.2.2.1 z
theorem blk_fp {σ' : L2.St} {H H' : Hp} {s s' : Shared} {scope : Scope} {ce : Env} {it : Addr} (J : L2.Inv (X.blk s H scope ce [it]) [] σ' H' s') (n : H' it = none) : FpOk (X.blk s H scope ce [it]) [] H' it :=
  have m : it ∈ [it] := List.mem_singleton.mpr rfl
  ⟨n, (J.ok.exf it m).1, J.ok.exfs it m, .inl m, (J.ok.exf it m).2, fun _ z => nomatch z⟩
theorem lc_hot {pins : List (Addr × Obj)} {s : Shared} {σ : L2.St} {H : Hp} {Q : VK} {elt tg l : Expr} {ifs : List Expr} {scope : Scope} {own : List (Str × Nat)} {pos pos' : Pos} {tl : TE} {g : TG} {tt : TT} {te : TE} {use : Option (Value → Sem Unit)} {Qf : Value → Shared → Prop}
    (hc : HotC X) (hN : X.N.Nodup) (I : L2.Inv X pins σ H s) (hi : PE X l tl) (ok : BlkOk X.N X.env.scope scope own)
    (hg : ∀ s H C cl fp, (∀ {pins : List (Addr × Obj)} {σ : L2.St} {H' : Hp} {s' : Shared}, L2.Inv (X.blk s H scope (compEnvC scope cl C X.env) fp) pins σ H' s' → ∃ x1, HotAt X.A x1 s'.heap) → PG (X.blk s H scope (compEnvC scope cl C X.env) fp) tg g) (ht : ∀ s H C cl fp, PTs (X.blk s H scope (compEnvC scope cl C X.env) fp) ifs tt) (he : ∀ s H C cl fp, PE (X.blk s H scope (compEnvC scope cl C X.env) fp) elt te)
    (hs : ∀ x, foldedSetIterable l X.env x = pure x) (h : tLc (iList X.K tl) g tt te (own.map (·.2)) σ H Q)
    (out : ∀ D C s' m H', L2.Inv X pins σ H' s' → Q (.ref D) H' → s'.heap.Ns C m → FpOk X pins H' C → compPost (model X.prog X.w) X.A X.xe use Qf (.ref D) C (.ok .next) s') :
    wpAny (model X.prog X.w) X.A (comprehension (.ListComp elt [⟨tg, l, ifs, 0⟩] scope pos) scope X.env pos' (newList []) false (eval l X.env) use) Qf X.xe s := by
  have fr : ∀ y ∈ scope.names, y.2 = .free → ∃ c, X.env.cells.lookup y.1 = some c := fun y hy e => I.ok.has _ (ok.free y hy e)
  refine wpAny_comprehension_free (use := use) rfl hs (closure_ok fr) ok.kind (fun y hy e => by rw [ok.uniq y hy, e]) (thn (hi.run pins s σ H _ I h) fun xv s1 ⟨x, H2, I1, rx, a, ex, ⟨xs, hq⟩, q⟩ => ?_)
  subst ex
  cases rx
  obtain ⟨its, rv, pl, hz⟩ := I1.list hq
  refine wpAny_pyIter_list pl.isList ?_
  -- the iterator
  obtain ⟨s2, es2⟩ : ∃ s2 : Shared, s2 = { s1 with heap := s1.heap.push { cls := .type "list_iterator", data := .fields #[.ref a, .int 0 0] } } := ⟨_, rfl⟩
  obtain ⟨it, eit⟩ : ∃ it : Addr, it = s1.heap.objs.size := ⟨_, rfl⟩
  have hit : s2.heap.IsListIter it a 0 := by
    rw [es2, eit]
    exact ⟨_, Heap.get?_push_size _ rfl, rfl, rfl⟩
  have I2 : L2.Inv X pins σ H2 s2 := by
    rw [es2]
    exact I1.kept (t' := s1.toks) fun b o e => Heap.get?_push_of_some _ e
  have f2 : FpOk X pins H2 it := by
    rw [eit]
    exact I1.fpOk (Nat.le_refl _) (I1.hok.fresh (Nat.le_refl _))
  rw [← es2, ← eit]
  clear es2 eit I1 pl rv
  -- the list that comes, the block
  refine wpAny_newObj_type (newEnv_comp ?_) (by show 0 ≤ sizeLine; decide)
  obtain ⟨D, eD⟩ : ∃ D : Addr, D = s2.heap.objs.size := ⟨_, rfl⟩
  obtain ⟨W, ⟨m0, w0⟩, turn⟩ := q D (I2.hok.fresh (Nat.le_of_eq eD.symm))
  obtain ⟨s3, es3⟩ : ∃ s3 : Shared, s3 = { s2 with heap := s2.heap.push { cls := .type "list", data := .seq ([] : List Value).toArray } } := ⟨_, rfl⟩
  have h3 : s3.heap = s2.heap.push { cls := .type "list", data := .seq ([] : List Value).toArray } := by rw [es3]
  have I3 : L2.Inv X pins σ (upd H2 D (.lst [])) s3 := by
    rw [es3]
    refine I2.laid (t' := s2.toks) (fun b o e => Heap.get?_push_of_some _ e) (Nat.le_of_eq eD.symm) ⟨Nat.zero_le _, [], 0, .nil, ?_⟩
    rw [eD]
    exact Heap.get?_push_size _ rfl
  have lt : it < s2.heap.objs.size := by
    obtain ⟨o, e, _⟩ := hit
    exact Heap.lt_size e
  have nD : it ≠ D := by rw [eD]; exact Nat.ne_of_lt lt
  have f3 : FpOk X pins (upd H2 D (.lst [])) it := ⟨by rw [upd_ne nD]; exact f2.1, f2.2⟩
  have I4 := block_start (fp := [it]) I3 ok hN fun b hb => by
    rw [List.mem_singleton.mp hb, h3, Heap.size_push]
    exact ⟨f3, Nat.lt_succ_of_lt lt⟩
  have hit3 : s3.heap.IsListIter it a 0 := hit.at fun o e => by rw [h3]; exact Heap.get?_push_of_some _ e
  rw [← es3, ← eD]
  show codeAny _ _ (.compStart (.ListComp elt [⟨tg, l, ifs, 0⟩] scope pos) 0 (.ref it) (.ref D) (compEnvC scope (cellsFrom (s3.heap.objs.size + 1) scope.names (cloFrom X.env.cells scope.names [])) s3.heap.objs.size X.env)) (compPost (model X.prog X.w) X.A X.xe use Qf (.ref D) s3.heap.objs.size) { s3 with heap := pushCells (s3.heap.push { cls := .type "dict", data := .dict #[] }) scope.names }
  have pg := hg s3 (upd H2 D (.lst [])) s3.heap.objs.size (cellsFrom (s3.heap.objs.size + 1) scope.names (cloFrom X.env.cells scope.names [])) [it]
  have pt := ht s3 (upd H2 D (.lst [])) s3.heap.objs.size (cellsFrom (s3.heap.objs.size + 1) scope.names (cloFrom X.env.cells scope.names [])) [it]
  have pe := he s3 (upd H2 D (.lst [])) s3.heap.objs.size (cellsFrom (s3.heap.objs.size + 1) scope.names (cloFrom X.env.cells scope.names [])) [it]
  have cL : (compEnvC scope (cellsFrom (s3.heap.objs.size + 1) scope.names (cloFrom X.env.cells scope.names [])) s3.heap.objs.size X.env).locals = s3.heap.objs.size := rfl
  generalize compEnvC scope (cellsFrom (s3.heap.objs.size + 1) scope.names (cloFrom X.env.cells scope.names [])) s3.heap.objs.size X.env = ce at I4 pg pt pe cL ⊢
  have hit4 : (pushCells (s3.heap.push { cls := .type "dict", data := .dict #[] }) scope.names).IsListIter it a 0 := hit3.at fun o e => pushCells_keeps _ _ _ _ (Heap.get?_push_of_some _ e)
  generalize upd H2 D (.lst []) = H3 at I3 I4 pg pt pe w0 f3
  obtain ⟨p, h1, hp⟩ := hc
  have pni : p.1 ≠ it := f3.2.2.2.2.2 p (List.mem_append_left _ hp)
  have pg := pg fun {pn σ' H' s'} J => by
    obtain ⟨hh, vs1, d1, c1⟩ := h1
    exact ⟨p.1, hh, p.2, vs1, blk_pin hp I3 pni J, d1, c1⟩
  have loop : codeAny (model X.prog X.w) X.A (.compLoop (.ListComp elt [⟨tg, l, ifs, 0⟩] scope pos) 0 (.ref it) (.ref D) ce) (compPost (model X.prog X.w) X.A X.xe use Qf (.ref D) s3.heap.objs.size) { s3 with heap := pushCells (s3.heap.push { cls := .type "dict", data := .dict #[] }) scope.names } := by
    refine compLoop_any (fun n s' => ∃ i H', L2.Inv (X.blk s3 H3 scope ce [it]) [] (wipe σ (own.map (·.2))) H' s' ∧ s'.heap.IsListIter it a i ∧ H' it = none ∧ W i n H') ?_ m0 ⟨0, H3, I4, hit4, f3.1, w0⟩
    intro n s5 ⟨i, H5, I5, st5, n5, w5⟩
    have F5 := blk_fp I5 n5
    rcases turn i n H5 w5 with ⟨⟨ys, hy, hi⟩, qq⟩ | ⟨⟨ys, y, hy, hyi⟩, Nx, hNx, step⟩
    · obtain ⟨its5, r5, p5, _⟩ := I5.list hy
      obtain ⟨hh, vs1, d1, c1⟩ := h1
      refine end_hot (x1 := p.1) ⟨hh, p.2, vs1, blk_pin hp I3 pni I5, d1, c1⟩ pni st5 p5.isList (by have := r5.length; simp; omega) fun h' k => ?_
      have I6 : L2.Inv (X.blk s3 H3 scope ce [it]) [] (wipe σ (own.map (·.2))) H5 { s5 with heap := h' } := I5.turned (t' := s5.toks) k F5.1 F5.2.1 F5.2.2.2.1 F5.2.2.2.2.1 F5.2.2.2.2.2
      have I7 : L2.Inv X pins σ H5 { s5 with heap := h' } := I3.call' (ch := [it]) I6.os I6.base I6.hok I6.bare fun b hb => by
        rw [List.mem_singleton.mp hb]
        exact ⟨f3.2.2.2.1, f3.2.1, f3.2.2.2.2.1, f3.2.2.2.2.2⟩
      have nC : H5 s3.heap.objs.size = none := cL ▸ I6.free
      obtain ⟨m, hn, _⟩ := I6.loc
      exact out D s3.heap.objs.size _ m H5 I7 qq (cL ▸ hn) (I3.fpOk (Nat.le_refl _) nC)
    · obtain ⟨its5, r5, p5, _⟩ := I5.list hy
      obtain ⟨u, hu, ru⟩ := r5.get hyi
      refine wpAny_pyNext_list_item st5 p5.isList (x := u) (by simpa using hu) fun h' st6 sb => ?_
      have I6 : L2.Inv (X.blk s3 H3 scope ce [it]) [] (wipe σ (own.map (·.2))) H5 { s5 with heap := h' } := I5.turned (t' := s5.toks) (fun b o hb e => (sb.2 b hb).trans e) F5.1 F5.2.1 F5.2.2.2.1 F5.2.2.2.2.1 F5.2.2.2.2.2
      obtain ⟨o6, e6, k6, d6⟩ := id st6
      refine go_of (s := { s5 with heap := h' }) e6 k6 d6 (by decide) ?_
      have I7 := I6.pinned (fp := [it]) (fun b hb => by rw [List.mem_singleton.mp hb]; exact blk_fp I6 n5) fun b hb => by
        rw [List.mem_singleton.mp hb]
        exact ⟨o6, e6, fun v z => by rw [d6] at z; cases z⟩
      refine thnF (pg.run _ _ _ H5 y u _ I7 ru (step y H5 ⟨rfl, fun zs hz => by rw [I5.list_inj hz hy]; exact hyi⟩)) fun _ s8 ⟨σ8, H8, I8, w8, q8⟩ => ?_
      refine thnF (pt.run _ s8 σ8 H8 _ I8 q8) fun c s9 ⟨H9, I9, q9⟩ => ?_
      have done : ∀ {s' : Shared} {H' : Hp}, L2.Inv (X.blk s3 H3 scope ce [it]) ([] ++ pinsAt [it] h') σ8 H' s' → Nx H' → ∃ m, m < n ∧ ∃ i H', L2.Inv (X.blk s3 H3 scope ce [it]) [] (wipe σ (own.map (·.2))) H' s' ∧ s'.heap.IsListIter it a i ∧ H' it = none ∧ W i m H' := fun {s' H'} J nx => by
        obtain ⟨m', hm, w'⟩ := hNx H' nx
        have pin := J.pin (it, o6) (List.mem_append_right _ (List.mem_append_right _ (mem_pinsAt List.mem_cons_self e6)))
        refine ⟨m', hm, i + 1, H', (J.unpinned (pins := [])).weak (by rw [← w8, wipe_length]) (fun j v e => ?_), ⟨o6, pin.1, k6, d6⟩, pin.2.1, w'⟩
        rw [← w8] at e
        exact (wipe_some e).1
      cases c with
      | false =>
        rw [if_neg Bool.false_ne_true] at q9 ⊢
        exact done I9 q9
      | true =>
        rw [if_pos rfl] at q9 ⊢
        exact thnF (pe.run _ s9 σ8 H9 _ I9 q9) fun z s10 ⟨yv, H10, I10, r10, acc, hD, hzz, nx⟩ => app_ok (X := X.blk s3 H3 scope ce [it]) I10 hD hzz r10 fun s11 I11 => done I11 nx
  exact codeAny_compStart_list loop (wpAny_pyIter_listiter hit4 loop)
theorem ps_setH {i : Nat} {y : Str} {py : Pos} {elt tg l : Expr} {ifs : List Expr} {scope : Scope} {own : List (Str × Nat)} {pos spos : Pos} {tl : TE} {g : TG} {tt : TT} {te : TE} (hc : HotC X) (hN : X.N.Nodup) (hy : X.N[i]? = some y) (hl : X.env.scope.names.lookup y = some .local)
    (sw : swapsWith (.ListComp elt [⟨tg, l, ifs, 0⟩] scope pos) (some (.Name y py)) spos.line X.env = pure true) (hi : PE X l tl) (ok : BlkOk X.N X.env.scope scope own)
    (hg : ∀ s H C cl fp, (∀ {pins : List (Addr × Obj)} {σ : L2.St} {H' : Hp} {s' : Shared}, L2.Inv (X.blk s H scope (compEnvC scope cl C X.env) fp) pins σ H' s' → ∃ x1, HotAt X.A x1 s'.heap) → PG (X.blk s H scope (compEnvC scope cl C X.env) fp) tg g) (ht : ∀ s H C cl fp, PTs (X.blk s H scope (compEnvC scope cl C X.env) fp) ifs tt) (he : ∀ s H C cl fp, PE (X.blk s H scope (compEnvC scope cl C X.env) fp) elt te)
    (hs : ∀ x, foldedSetIterable l X.env x = pure x := by intro _; rfl) : PS X (.Assign [.Name y py] (.ListComp elt [⟨tg, l, ifs, 0⟩] scope pos) spos) (tAsg (tLc (iList X.K tl) g tt te (own.map (·.2))) (gName i)) := by
  refine ⟨fun pins s σ H D I h => ?_⟩
  have h : tLc (iList X.K tl) g tt te (own.map (·.2)) σ H (fun x H1 => gName i x σ H1 D.nx) := h
  rw [exec_Assign_Name_used _ _ _ _ sw]
  refine wpAny_bind (wpAny_standAt (wpAny_bind ?_))
  show wpAny _ X.A (do let _ ← comprehension (.ListComp elt [⟨tg, l, ifs, 0⟩] scope pos) scope X.env (firstIterPos [⟨tg, l, ifs, 0⟩] pos) (newList []) false (eval l X.env) (some (assign (.Name y py) X.env))) _ _ s
  have core := lc_hot (pos := pos) (pos' := firstIterPos [⟨tg, l, ifs, 0⟩] pos) (use := some (assign (.Name y py) X.env)) (Qf := fun _ s' => SP X pins D .next s') hc hN I hi ok hg ht he hs h fun L C s' m H' J q ns ⟨f0, f1, f2, f3, f4, f5⟩ => by
    show wpAny _ _ (assign (.Name y py) X.env (.ref L)) _ _ _
    refine wpAny_assign_Name (store_ok2 (v := V.ref L) J hN hy (.inl hl) rfl (fun s2 I2 ⟨a, sb, ha⟩ => ⟨m, ns.sameBut sb ?_, fun h3 sb3 => ⟨_, H', I2.turned (t' := s2.toks) (fun b o hb e => (sb3.2 b hb).trans e) f0 f1 f3 f4 f5, q⟩⟩) (.inr hl))
    rcases ha with z | z
    · rw [z]; exact f1
    · exact Ne.symm (f4 y a z)
  exact wpAny_bind (thn core fun _ s' hq => wpAny_pure (wpAny_pure hq))
end
end Wr

set_option Elab.async false
set_option linter.all false
set_option maxRecDepth 100000
set_option maxHeartbeats 4000000
namespace Wr
open PySem PySem.Spec PyProof.Rows L2 HotX L2H
/-! ### a def that is handed the exception that is handled -/
structure FnE (P : Program) (w : World) (K : PySem.W.Frag) (mg : Str → Option Value) (base : Heap) (k : Nat) (f : Addr) (fd : FuncData) (ps : List Str) (sp : Addr × Obj → Sp) : Prop where
  len : ∀ p vs H Q E, sp p vs H Q E → vs.length = ps.length
  run : ∀ (p : Addr × Obj) (A : Around) (outer : List Env) (s : Shared) (H : Hp) (args : Args) (us : List Value) (vs : List V) (Q : VK) (E : XK), RoomH k A → Hot1 A p → PinOk outer H s p → Env0 P w K mg base A outer s H → BindsTo s fd args (ps.zip us) → Vals vs us → sp p vs H Q E →
    codeAny (model P w) A (.call (.ref f) args) (CR CX0 outer P w H s Q E) s
theorem fn_ofE {P : Program} {w : World} {K : PySem.W.Frag} {mg : Str → Option Value} {base : Heap} {k : Nat} {f : Addr} {name qual : Str} {params : Arguments} {body : List Stmt} {scope : Scope} {dV kV doc pm cdv ct oc : Value} {an od : Option Addr}
    {osl : Array (Option Value)} {N ps : List Str} {sp : Addr × Obj → Sp} (lk : K.lookup f = some ⟨oc, od, .func (PySem.W.fnOf name qual params body scope dV kV doc pm an cdv ct), osl⟩) (hcd : PySem.W.codeIn K cdv qual = true) (S : FnScope N ps scope) (len : ∀ p vs H Q E, sp p vs H Q E → vs.length = ps.length)
    (hbody : ∀ (p : Addr × Obj) (A : Around) (outer : List Env) (s : Shared) (H : Hp) (vs : List V) (Q : VK) (E : XK), Hot1 A p → RoomH k (A.deeper (envOfC qual scope s.heap.objs.size f cdv)) → sp p vs H Q E → ∃ t, PSs (cxH CX0 P w K mg base N qual scope f cdv A outer s H E p) body t ∧ t { nx := fun _ H' => Q .non H', rt := Q } (L2.start N vs) H) :
    FnE P w K mg base (k + 1) f (PySem.W.fnOf name qual params body scope dV kV doc pm an cdv ct) ps sp := by
  refine ⟨len, fun p A outer s H args us vs Q E room hot pin e0 bind rv h => ?_⟩
  obtain ⟨t, ht, hq⟩ := hbody p A outer s H vs Q E hot (room.deeper _) h
  have old := fun b o e => (e0.bs b o e).1
  have inS : K.In s.heap := e0.mod.kin.keeps old
  refine codeAny_call_function room.depth (inS _ _ lk) rfl S.co S.gen rfl (PySem.W.codeRec_of inS hcd) (bind _ _ _ _ (wpAny_newFunctionEnv_cells S.kind (fun ⟨n, v⟩ hy => ?_) fun env ee s1 ic => ?_))
  · exact (S.par n (List.of_mem_zip hy).1).imp id fun c => ⟨c, PySem.W.cellsFrom_some _ _ _ (.inl c)⟩
  · subst ee
    have I := inv_startH (CX := CX0) (mg := mg) (E := E) S pin e0 (len _ _ _ _ _ h) rv ic
    refine ⟨(e0.mod.nolimit.keeps old).keeps ic.toInCall.keep, codeAny_func (wpAny_mono (ht.run [] s1 _ H _ I hq) (fun fl s' hs => ?_) fun _ _ hs => hs)⟩
    rcases fl with _ | _ | _ | u
    all_goals first
      | (obtain ⟨v, σ', H', J, r', q'⟩ := hs; exact ⟨v, H', J.os, J.bare, J.base, J.hok, r', q'⟩)
      | (obtain ⟨σ', H', J, q'⟩ := hs; exact ⟨V.non, H', J.os, J.bare, J.base, J.hok, rfl, q'⟩)
      | (obtain ⟨_, _, _, q'⟩ := hs; exact False.elim q')
def tCallE (sp : Addr × Obj → Sp) (p : Addr × Obj) (t : TA) : TE := fun σ H Q => t σ H fun vs H1 => sp p vs H1 Q fun _ _ _ => False
section
variable {X : Cx} {k : Nat} {f : Addr} {fd : FuncData} {ps : List Str} {sp : Addr × Obj → Sp} {x : Str} {q pos : Pos} {e : Expr} {es : List Expr} {t : TA} {p : Addr × Obj}
theorem pe_callE (F : FnE X.prog X.w X.K X.mg X.base k f fd ps sp) (hr : RoomH k X.A) (hot : Hot1 X.A p) (hp : p ∈ X.pn) (hg : Gl X x) (hm : X.mg x = some (.ref f)) (hk : PySem.W.keepIn X.K (.ref f) = true) (hb : Binds X.K fd ps []) (ha : PA X (e :: es) t)
    (hdb : (x == ("__debug__" : Str)) = false := by decide) (he : starEach (e :: es) X.env = (false, eval e X.env) :: starEach es X.env := by rfl) (hpl : (backTo pos (starEach es X.env)).any (·.1) = false := by rfl) : PE X (.Call (.Name x q) (e :: es) [] pos) (tCallE sp p t) := by
  refine ⟨fun pins s σ H Q I h => wpAny_Call_Name_kw (ld_glob I hg hm (PySem.W.callWith_K (h₀ := X.base) I.ok.mod.kin hk (thn (ha.run pos pins s σ H _ I h) fun us s1 ⟨vs, H1, I1, r, q1⟩ => ⟨I1.kIn, ?_⟩) he hpl) hdb)⟩
  have hl : us.length = ps.length := by rw [← r.length]; exact F.len _ _ _ _ _ q1
  have b := hb s1 us I1.kIn (by rw [List.append_nil]; exact hl)
  rw [List.append_nil] at b
  have a := I1.pin p (List.mem_append_left _ hp)
  have nf : p.1 ∉ frs X.stack := fun hm => (List.mem_cons.mp (I1.stkSub p.1 hm)).elim a.2.2.1 a.2.2.2.1
  refine wpAny_call (codeAny_mono (F.run p X.A X.stack s1 H1 ⟨us, []⟩ us vs Q _ hr hot ⟨a.1, a.2.1, nf, a.2.2.2.2⟩ I1.env0 b r q1) fun r s' hq => ?_)
  rcases r with e | fl
  · exact hq.elim
  · rcases fl with _ | _ | _ | u
    all_goals first
      | exact I1.after hq
      | exact False.elim hq
end
/-! ### isinstance of the exception that is handled -/
structure IsxC (K : PySem.W.Frag) (C : Addr) : Prop where
  cl : (PySem.W.clsIn K C).isSome = true
  ga : PySem.W.findIn K (.ref C) "__getattribute__" = some (some (.builtin "BaseException.__getattribute__"))
  gg : PySem.W.findIn K (.ref C) "__getattr__" = some none
  sb : PySem.W.subIn K (.ref C) (.type "BaseException") = some true
  ca : PySem.W.findIn K (.ref C) "__class__" = some (some (.builtin "object.__class__"))
  sp : PySem.W.specialIn K (.builtin "object.__class__") "__get__" = some (some (.builtin "getset_descriptor.__get__"))
  tk : PySem.W.takesIn K (.builtin "object.__class__") = some true
  mr : PySem.W.mroIn K C (.type "object") = some true
/-- what p is: of the class C, with a dict that is tracked, or none -/
def PinC (C : Addr) (H : Hp) (p : Addr × Obj) : Prop := p.2.cls = .ref C ∧ (∃ vs, p.2.data = .fields vs) ∧ ((∃ dd fs, p.2.dict = some dd ∧ H dd = some (.xd fs)) ∨ p.2.dict = none)
def rIsP (K : PySem.W.Frag) (C : Addr) (p : Addr × Obj) : List V → Hp → VK → Prop := fun xs H Q => PinC C H p ∧ ∃ (c : V) (cv : Value) (k : Bool), xs = [.ref p.1, c] ∧ (∀ u, RelV c u → u = cv) ∧ PySem.W.kitOne K (.ref C) cv = some k ∧ Q (.bl k) H
theorem call_isP {X : Cx} {C : Addr} {p : Addr × Obj} (T : IsxC X.K C) (hd : PySem.W.hasDictIn X.K C = true) (hp : p ∈ X.pn) : CallR X (.builtin "isinstance") (rIsP X.K C p) := by
  intro pins s σ H xs us Q I r ⟨⟨hc, ⟨vs, hv⟩, hdd⟩, c, cv, k, ex, hu, hk, q⟩
  subst ex
  have get := (I.pin p (List.mem_append_left _ hp)).1
  have nc : PySem.W.notCls p.2 = true := by unfold PySem.W.notCls; rw [hv] <;> rfl
  cases r with
  | cons rx rr =>
    cases rr with
    | cons rt rr =>
      cases rr
      cases rx
      have ec := hu _ rt
      subst ec
      rcases hdd with ⟨dd, fs, e1, e2⟩ | e1
      · obtain ⟨mA, hns, hr⟩ := (show ObjOk X.prog X.w H s.heap dd (.xd fs) from I.hok dd _ e2)
        obtain ⟨od, ho, _⟩ := lookIn_ns hns
        have J : PySem.W.InstAt s.heap p.1 p.2 C (some od) := ⟨get, hc, nc, by rw [e1]; exact ho⟩
        exact PySem.W.kia_one (PySem.W.kitx_exc T.cl T.ga T.gg T.sb T.ca T.sp T.tk T.mr) I.kIn J hk (fun z => nomatch z) fun tk => ⟨.bl k, H, I.kept (t' := tk) fun _ _ z => z, rfl, q⟩
      · have J : PySem.W.InstAt s.heap p.1 p.2 C none := ⟨get, hc, nc, by rw [e1]; trivial⟩
        exact PySem.W.kia_one (PySem.W.handS_kitx_exc T.ga T.gg T.sb hd T.ca T.sp T.tk T.mr) I.kIn J hk (fun z => nomatch z) fun tk => ⟨.bl k, H, I.kept (t' := tk) fun _ _ z => z, rfl, q⟩
end Wr

set_option Elab.async false
set_option linter.all false
set_option maxRecDepth 100000
set_option maxHeartbeats 4000000
namespace Wr
open PySem PySem.Spec PyProof.Rows L2 Evl
/-! ### NoRow -/
abbrev s_nri : Stmt := inClass (topS 16) 0
theorem sc_nri : FnScope ["self", "row"] ["self", "row"] (defScope s_nri) := ⟨rfl, rfl, rfl, by decide +kernel, rfl, by decide +kernel, by decide +kernel⟩
abbrev IeC (K : PySem.W.Frag) (C : Addr) : Prop := OexT K C ieTail "IndexError" "IndexError.__new__"
/-- what the top leaves of the class -/
structure NrC (K : PySem.W.Frag) (mg : Str → Option Value) (C fI : Addr) (fdI : FuncData) : Prop where
  T : IeC K C
  F : Fun K "__init__" "NoRow.__init__" s_nri fI fdI
  b : Binds K fdI ["self", "row"] []
  m : mg "NoRow" = some (.ref C)
  i : PySem.W.findIn K (.ref C) "__init__" = some (some (.ref fI))
  t : PySem.W.typeIn K (.ref fI) = some (.type "function")
  n : PySem.W.findIn K (.ref C) "row" = some none
  v : PySem.W.findCls K (.type "IndexError") (.type "type") "__init__" = some (.val (.builtin "IndexError.__init__"))
  kb : mg "IndexError" = none
/-- the error is made: its field name is a copy -/
def XR (K : PySem.W.Frag) (C : Addr) (b : List Addr) (H : Hp) (d : PyData) (E : XK) : Prop := ∀ dx y Hf, H dx = none → Ex H Hf → Hf dx = some (.xd [("row", y)]) → Dq K b Hf y d → E (.ref C) (some dx) Hf
def spNri (K : PySem.W.Frag) : Sp := fun vs H Q _ => ∃ (a C : Addr) (v : V) (d : PyData) (b : List Addr), vs = [.ref a, v] ∧ IeC K C ∧ PySem.W.findIn K (.ref C) "row" = some none ∧ H a = some (exo a C none) ∧ a ∈ b ∧ Kn b H ∧ Dq K b H v d ∧ okD 30 d = true ∧
  ∀ dx y H1, Ex H H1 → H1 dx = none → dx ≠ a → Dq K b H1 y d → Q .non (upd (upd H1 dx (exd dx [("row", y)])) a (exo a C (some dx)))
theorem bt_ie : bootBuiltins "IndexError" = some (.type "IndexError") := by decide +kernel
theorem ty_ie : typeOf (.type "IndexError") = pure (.type "type") := by kernel_rfl
section
variable {P : Program} {w : World} {K : PySem.W.Frag} {mg : Str → Option Value} {base : Heap} {f g C fI : Addr} {fd gd fdI : FuncData}
theorem ok_nri (T : NrC K mg C fI fdI) (D1 : Def K mg "own_copy" s_copy ["thing"] g gd) (B : Blt mg) : FnOk P w K mg base CX0 2 fI fdI ["self", "row"] (spNri K) := by
  refine T.F.ok sc_nri (fun vs H Q E ⟨a, C, v, d, b, e, _⟩ => by rw [e]; rfl) (fun cdv A outer s H vs Q E hr h => ?_)
  obtain ⟨a, C', v, d, b, rfl, hC, hno, ha, hab, kn, hd, hok, q⟩ := h
  have G1 := ok_copy (P := P) (w := w) (base := base) D1 B
  refine ⟨_, pss_cons (ps_expr (pe_binit (tl := ieTail) (Bn := "IndexError") (newId := "IndexError.__new__") ie_init rfl T.kb bt_ie ty_ie (by decide +kernel) (by decide +kernel) (by decide) (by decide) T.v (pa_cons (pv 0) (pa_cons pe_str pa_nil))))
    (pss_one (ps_first (tl := ieTail) (Bn := "IndexError") (newId := "IndexError.__new__") (pv 0) (pe_cd D1 G1 hr (pa_cons (pv 1) pa_nil)))), ?_⟩
  refine ⟨.ref a, rfl, a, C', _, rfl, by show 1 ≤ 1000; decide, hC, ha, ?_⟩
  refine (ed_call (K := K) (b := b) (pre := fun ds => ds.length = 1 ∧ ∀ d, ds = [d] → okD 30 d = true) (f := fun ds => ds.headD .none) (E := E0) kn (ea_cons (ed_var (i := 1) rfl hd) ea_nil) ⟨rfl, fun d' e => by cases e; exact hok⟩) H (Ex.refl H) _ fun y H1 x1 hy => ?_
  exact ⟨.ref a, rfl, a, C', rfl, hC, hno, x1 _ _ ha, fun dx hdx hne => q dx y H1 x1 hdx hne hy⟩
end
/-! ### raise NoRow(e) -/
section
variable {X : Cx} {C fI : Addr} {fdI : FuncData} {e : Expr} {te : TE} {p pos rpos : Pos} {W : WX} {σ : L2.St} {H : Hp} {b : List Addr} {d : PyData} {g : Addr} {gd : FuncData}
theorem mk_nr {E : XK} {K : PySem.W.Frag} (hT : IeC K C) (hn : PySem.W.findIn K (.ref C) "row" = some none) (kn : Kn b H) (h : ED K b te σ H d) (hok : okD 30 d = true) (hx : XR K C b H d E) : tMkO C (spNri K) [] (tCons te tNil) σ H E :=
  h H (Ex.refl H) _ fun v H1 x1 hv => ⟨by show 1 ≤ 1000; decide, fun a ha => by
    refine ⟨a, C, v, d, a :: b, rfl, hT, hn, upd_same, List.mem_cons_self, fun z hz => ?_, dp_ex put_ex _ _ (Dq.hide hv ha), hok, fun dx y H2 x2 hdx hne hy => ⟨rfl, dx, [("row", y)], upd_same, by rw [upd_ne hne]; exact upd_same, ?_, ?_⟩⟩
    · rcases List.mem_cons.mp hz with rfl | hz
      · rw [upd_same]; intro z; cases z
      · exact (kn.up x1).up (Ex.new ha) z hz
    · cases z : H1 dx with
      | none => rfl
      | some o =>
        have := x2 _ _ (Ex.new (o := exo a C none) ha _ _ z)
        rw [this] at hdx
        cases hdx
    · have h0 : H dx = none := by
        cases z : H dx with
        | none => rfl
        | some o =>
          have := x2 _ _ (Ex.new (o := exo a C none) ha _ _ (x1 _ _ z))
          rw [this] at hdx
          cases hdx
      have stay : ∀ c o, c ≠ a → H2 c = some o → upd (del (upd (upd H2 dx (exd dx [("row", y)])) a (exo a C (some dx))) a) dx (.xd [("row", y)]) c = some o := fun c o hc z => by
        have hcd : c ≠ dx := fun e => by rw [e, hdx] at z; cases z
        rw [upd_ne hcd, del_ne hc, upd_ne hc, upd_ne hcd]
        exact z
      refine hx dx y _ h0 (fun c o z => ?_) upd_same ?_
      · have z1 := x1 _ _ z
        have hc : c ≠ a := fun e => by rw [e, ha] at z1; cases z1
        exact stay c o hc (x2 _ _ (Ex.new ha _ _ z1))
      · refine dp_ex (fun c o z => ?_) _ _ hy
        obtain ⟨z1, z2⟩ := hid_some z
        have hc : c ≠ a := fun e => z1 (by rw [e]; exact List.mem_cons_self)
        rw [hid_ne fun m => z1 (List.mem_cons_of_mem _ m)]
        exact stay c o hc z2⟩
theorem ps_nr (T : NrC X.K X.mg C fI fdI) (D1 : Def X.K X.mg "own_copy" s_copy ["thing"] g gd) (B : Blt X.mg) (hc : X.calm = true) (tk : Takes X W) (hr : Room 3 X.A) (ha : PE X e te) (hg : Gl X "NoRow" := by rfl)
    (he : starEach [e] X.env = (false, eval e X.env) :: starEach [] X.env := by rfl) : PS X (.Raise (some (.Call (.Name "NoRow" p) [e] [] pos)) none rpos) (fun _ σ H => tMkO C (spNri X.K) [] (tCons te tNil) σ H fun cls d H' => W cls d σ H') :=
  ps_raise hc tk (pmk_t T.T T.i T.t (ok_nri (P := X.prog) (w := X.w) (base := X.base) T D1 B) hr T.b pass0 hg T.m (pa_cons ha pa_nil he) (by decide) he rfl)
end
end Wr

set_option Elab.async false
set_option linter.all false
set_option maxRecDepth 100000
set_option maxHeartbeats 4000000
namespace Wr
open PySem PySem.Spec PyProof.Rows L2 Evl
/-! ### errors whose context is None -/
section
variable {X : Cx} {o e : Expr} {es : List Expr} {to te : TE} {ta : TA} {f B : Str} {p p' p1 p2 pos : Pos} {tl : List Value} {Bn newId initId Bs : String}
/-- C(e, ..) as an exception that is raised -/
theorem pmk_tN {CX : CXT} {x : Str} {C fI : Addr} {k : Nat} {fd : FuncData} {ps : List Str} {sp : Sp} (T : OexT X.K C tl Bn newId) (iC : PySem.W.findIn X.K (.ref C) "__init__" = some (some (.ref fI))) (tI : PySem.W.typeIn X.K (.ref fI) = some (.type "function"))
    (G : FnOk X.prog X.w X.K X.mg X.base CX k fI fd ps sp) (hr : Room (k + 1) X.A) (hb : Binds X.K fd ps []) (hx : Passes CX X (fun _ _ _ => False)) (hg : Gl X x) (hm : X.mg x = some (.ref C)) (ha : PA X (e :: es) ta)
    (hdb : (x == ("__debug__" : Str)) = false := by decide) (he : starEach (e :: es) X.env = (false, eval e X.env) :: starEach es X.env := by rfl) (hpl : (backTo pos (starEach es X.env)).any (·.1) = false := by rfl) :
    L2N.PMk X (.Call (.Name x p) (e :: es) [] pos) (tMkO C sp [] ta) := by
  intro pins s σ H Q I h
  obtain ⟨nm, q, N, bs, sn, sub, ab, col, dd, k0, k1, k2, k3, k5, hC⟩ := T.cls
  refine wpAny_Call_Name_kw (ld_glob I hg hm (PySem.W.callWith_K (h₀ := X.base) I.ok.mod.kin T.kC (thn (ha.run pos pins s σ H _ I h) fun us s1 ⟨vs, H1, I1, r1, hz, q1⟩ => ⟨I1.kIn, ?_⟩) he hpl) hdb)
  show wpAny _ _ (call (.ref C) us) _ _ _
  obtain ⟨hp, g, dr, tk, os⟩ := s1
  have up : hp.objs.size ≤ hp.objs.size + 1 := Nat.le_succ _
  have free : H1 (hp.objs.size + 1) = none := I1.hok.fresh up
  have hq := q1 _ free
  rw [List.append_nil] at hq
  have stay : ∀ c u, hp.get? c = some u → ((hp.push (PySem.W.kdv_tup us)).push (PySem.HandSPX.excO C hp.objs.size)).get? c = some u := fun c u z => Heap.get?_push_of_some _ (Heap.get?_push_of_some _ z)
  have at1 : ((hp.push (PySem.W.kdv_tup us)).push (PySem.HandSPX.excO C hp.objs.size)).get? (hp.objs.size + 1) = some (PySem.HandSPX.excO C hp.objs.size) := by heap_get
  have I2 : Inv X pins σ (upd H1 (hp.objs.size + 1) (exo (hp.objs.size + 1) C none)) ⟨(hp.push (PySem.W.kdv_tup us)).push (PySem.HandSPX.excO C hp.objs.size), g, dr, tk, os⟩ := I1.laid (t' := tk) stay up (exo_ok at1)
  have r2 : Vals (V.ref (hp.objs.size + 1) :: vs) (Value.ref (hp.objs.size + 1) :: us) := .cons rfl r1
  have hl : (Value.ref (hp.objs.size + 1) :: us ++ []).length = ps.length := by
    rw [List.append_nil, ← r2.length]
    exact G.len _ _ _ _ hq
  have hus : us.length ≤ sizeLine := by
    rw [← Paired.length r1, sizeLine_eq]
    omega
  have hb2 := hb ⟨(hp.push (PySem.W.kdv_tup us)).push (PySem.HandSPX.excO C hp.objs.size), g, dr, tk, os⟩ (Value.ref (hp.objs.size + 1) :: us) I2.kIn hl
  rw [List.append_nil] at hb2
  refine wpAny_call (mk_call T.tail (I1.kIn _ _ hC) hus (PySem.W.looks_findIn I1.kIn iC) (fun self => PySem.W.bind_fn I1.kIn self tI) (codeAny_mono (G.run _ X.stack _ _ ⟨Value.ref (hp.objs.size + 1) :: us, []⟩ _ _ _ (fun _ _ _ => False) (hr.make C us []) (I2.env0.make C us []) hb2 r2 hq) fun r s' hq' => ?_))
  rcases r with er | fl
  · exact hx pins σ _ _ er s' I2 hq'
  rcases fl with _ | _ | _ | u
  all_goals try exact False.elim hq'
  obtain ⟨v, H2, os2, bare2, un2, hok2, rv, ev, d, fs, ea, ed, hd1, q2⟩ := hq'
  subst ev
  obtain ⟨h2, g2, d2, t2, os'⟩ := s'
  obtain ⟨t0, G2, J, kG, nG, oG, zG⟩ := mk_end0 (d2 := d2) (t2 := t2) I1 up stay un2 hok2 os2 bare2 ea ed hd1
  exact ⟨rv, _, _, _, ⟨G2, g2, d2, t2, os'⟩, _, .ref C, some d, rfl, J, kG, nG, oG, ⟨rfl, rfl, fun vs e => by cases e; rfl⟩, rfl, rfl, zG, rfl, bare2, raises_own T.exC T.tyC, q2⟩
end
section
variable {X : Cx} {C fI : Addr} {fdI : FuncData} {e : Expr} {te : TE} {p pos rpos : Pos} {W : WX} {g : Addr} {gd : FuncData}
theorem ps_npN (T : NpC X.K X.mg C fI fdI) (D1 : Def X.K X.mg "own_copy" s_copy ["thing"] g gd) (B : Blt X.mg) (hc : X.calm = true) (tk : L2N.Takes X W) (hr : Room 3 X.A) (ha : PE X e te) (hg : Gl X "NoPart" := by rfl)
    (he : starEach [e] X.env = (false, eval e X.env) :: starEach [] X.env := by rfl) : PS X (.Raise (some (.Call (.Name "NoPart" p) [e] [] pos)) none rpos) (fun _ σ H => tMkO C (spNpi X.K) [] (tCons te tNil) σ H fun cls d H' => W cls d σ H') :=
  L2N.ps_raise hc tk (pmk_tN T.T T.i T.t (ok_npi (P := X.prog) (w := X.w) (base := X.base) T D1 B) hr T.b pass0 hg T.m (pa_cons ha pa_nil he) (by decide) he rfl)
theorem ps_nrN (T : NrC X.K X.mg C fI fdI) (D1 : Def X.K X.mg "own_copy" s_copy ["thing"] g gd) (B : Blt X.mg) (hc : X.calm = true) (tk : L2N.Takes X W) (hr : Room 3 X.A) (ha : PE X e te) (hg : Gl X "NoRow" := by rfl)
    (he : starEach [e] X.env = (false, eval e X.env) :: starEach [] X.env := by rfl) : PS X (.Raise (some (.Call (.Name "NoRow" p) [e] [] pos)) none rpos) (fun _ σ H => tMkO C (spNri X.K) [] (tCons te tNil) σ H fun cls d H' => W cls d σ H') :=
  L2N.ps_raise hc tk (pmk_tN T.T T.i T.t (ok_nri (P := X.prog) (w := X.w) (base := X.base) T D1 B) hr T.b pass0 hg T.m (pa_cons ha pa_nil he) (by decide) he rfl)
end
section
variable {P : Program} {w : World} {K : PySem.W.Frag} {mg : Str → Option Value} {base : Heap}
theorem okN {x qual : Str} {st : Stmt} {f : Addr} {fd : FuncData} {N ps : List Str} {k : Nat} {sp : Sp} (F : Fun K x qual st f fd) (S : FnScope N ps (defScope st)) (len : ∀ vs H Q E, sp vs H Q E → vs.length = ps.length)
    (hbody : ∀ (cdv : Value) (A : Around) (outer : List Env) (s : Shared) (H : Hp) (vs : List V) (Q : VK) (E : XK), Room k (A.deeper (envOfC qual (defScope st) s.heap.objs.size f cdv)) → sp vs H Q E →
      ∃ t, PSs (cxOf (L2N.CX P w) P w K mg base N qual (defScope st) f cdv A outer s H E) (defBody st) t ∧ t { nx := fun _ H' => Q .non H', rt := Q } (start N vs) H) : FnOk P w K mg base (L2N.CX P w) (k + 1) f fd ps sp := by
  obtain ⟨oc, od, kV, doc, pm, an, cdv, ct, osl, rfl, lk, hcd⟩ := F.ex
  exact fn_of lk hcd S len fun A outer s H vs Q E hr hsp => hbody cdv A outer s H vs Q E hr hsp
end
section
variable {P : Program} {w : World} {K : PySem.W.Frag} {mg : Str → Option Value} {base : Heap} {f g g2 C fI : Addr} {fd gd gd2 fdI : FuncData}
theorem ok_placeN (D : Def K mg "place_of" s_place ["program", "part"] f fd) (T : NpC K mg C fI fdI) (D1 : Def K mg "own_copy" s_copy ["thing"] g gd) (B : Blt mg) : FnOk P w K mg base (L2N.CX P w) 4 f fd ["program", "part"] (spPl K C) := by
  refine okN D.F sc_place (fun vs H Q E ⟨b, ds, ps, part, _, hd, _⟩ => by rw [dps_len hd]; rfl) (fun cdv A outer s H vs Q E hr h => ?_)
  obtain ⟨b, ds, ps, part, kn, hd, pv', hok, q1, q2⟩ := h
  obtain ⟨v, v2, d1, d2, rfl, ed, h1, h2⟩ := two_of hd rfl
  cases ed
  refine ⟨_, pss_cons (ps_for (passes_of rfl) rfl (pi_enumT rfl B.enum (pa_cons (pv 0) pa_nil)) (pg_tup rfl (pgs_cons (pg_name (i := 2) sc_place.nd rfl (Or.inl rfl)) (pgs_cons (pg_tup rfl (pgs_cons (pg_name (i := 3) sc_place.nd rfl (Or.inl rfl)) (pgs_cons (pg_name (i := 4) sc_place.nd rfl (Or.inl rfl)) (pgs_cons (pg_name (i := 5) sc_place.nd rfl (Or.inl rfl)) pgs_nil)))) pgs_nil)))
      (pss_one (ps_if (pt_cmpR (op_eqD (hu64 hr)) (pv 3) (pv 1) (nomark _)) (pss_one (ps_ret (pv 2))) pss_nil)))
    (pss_one (ps_npN (W := fun cls d _ H => E cls d H) T D1 B rfl (L2N.takes_of rfl rfl rfl rfl) hr (pv 1))), ?_⟩
  have e1 := pv'.e
  have h1c := h1
  cases h1c with
  | @tup a xs _ g1 gn g2 =>
  have hl := dps_len g2
  have hlen : ds.length = ps.length := by rw [e1, List.length_map]
  have shp := ok_shaped hok
  refine ⟨.ref a, rfl, a, xs, rfl, ex_t hid_le g1, ?_⟩
  refine for_it walk_enumT (fun i σ' H' => (∃ y2 y3 y4 y5, σ' = [some (.ref a), some v2, y2, y3, y4, y5]) ∧ Ex H H' ∧ ∀ j, j < i → ∀ p, ps[j]? = some p → PyData.eqv (.str p.x) part = false) ⟨⟨none, none, none, none, rfl⟩, Ex.refl H, fun j hj => by omega⟩ (fun i σ' H' _ p => ex_t p.2.1 (ex_t hid_le g1)) ?_ ?_
  · intro i x σ' H' H2 hi ⟨⟨y2, y3, y4, y5, eσ⟩, xH, hno⟩ ⟨T', y1, yy, ex, nT, eH, e3, e4⟩
    subst eσ ex eH
    have e3' : y1 = .int (i : Nat) := (Option.some.inj e3).symm
    subst e3'
    obtain ⟨d, gd', dd⟩ := dps_at g2 e4
    have hp : ∃ p, ps[i]? = some p ∧ d = p.d := by
      rw [e1, List.getElem?_map] at gd'
      cases z : ps[i]? with
      | none => rw [z] at gd'; cases gd'
      | some p =>
        rw [z] at gd'
        exact ⟨p, rfl, (Option.some.inj gd').symm⟩
    obtain ⟨p, hp, rfl⟩ := hp
    have xT : Ex H' (upd H' T' (.tup [.int (i : Nat), yy])) := Ex.new nT
    have x2 := xH.trans xT
    have dd2 : Dq K b (upd H' T' (.tup [.int (i : Nat), yy])) yy p.d := Dq.up dd x2
    cases dd2 with
    | @tup a2 xs2 _ k1 kn2 k2 =>
    cases k2 with
    | @cons v3 _ _ _ m1 k2 =>
    cases k2 with
    | @cons v4 _ _ _ m2 k2 =>
    cases k2 with
    | @cons v5 _ _ _ m3 k2 =>
    cases k2
    refine ⟨T', [.int (i : Nat), .ref a2], rfl, .inl (.inl upd_same), rfl, .int (i : Nat), [.ref a2], rfl, .ref a2, [], rfl, ⟨a2, [v3, v4, v5], rfl, ex_t hid_le k1, rfl, v3, [v4, v5], rfl, v4, [v5], rfl, v5, [], rfl, rfl, rfl, ?_⟩⟩
    have t1 := et_t (ed_eq (K := K) (b := b) (σ := [some (.ref a), some v2, some (.int (i : Nat)), some v3, some v4, some v5]) (ed_var (i := 3) rfl m1) (ed_var (i := 1) rfl (Dq.up h2 x2)) (sh_str (pv'.xs p (List.mem_of_getElem? hp))) shp)
    refine t1 _ (Ex.refl _) _ fun H3 x3 => ?_
    cases hq : PyData.eqv (.str p.x) part with
    | true =>
      rw [if_pos rfl]
      refine ⟨.int (i : Nat), rfl, q1 i ?_ H3 (x2.trans x3)⟩
      unfold posV
      rw [List.findIdx?_eq_some_iff_getElem]
      have hi' : i < ps.length := (List.getElem?_eq_some_iff.mp hp).1
      have ep : ps[i] = p := (List.getElem?_eq_some_iff.mp hp).2
      refine ⟨hi', by rw [ep]; exact hq, fun j hj => ?_⟩
      rw [hno j hj ps[j] (List.getElem?_eq_getElem (by omega))]
      exact Bool.false_ne_true
    | false =>
      rw [if_neg Bool.false_ne_true]
      refine ⟨⟨_, _, _, _, rfl⟩, x2.trans x3, fun j hj p' hp' => ?_⟩
      by_cases e : j = i
      · subst e
        rw [hp] at hp'
        cases hp'
        exact hq
      · exact hno j (by omega) p' hp'
  · intro σ' H' ⟨⟨y2, y3, y4, y5, eσ⟩, xH, hno⟩
    subst eσ
    have hn : posV ps part = none := by
      unfold posV
      rw [List.findIdx?_eq_none_iff]
      intro p hp
      obtain ⟨j, hj, e⟩ := List.mem_iff_getElem.mp hp
      exact hno j (by omega) p (by rw [List.getElem?_eq_getElem hj, e])
    refine mk_np T.T T.n (kn.up xH) (ed_var (i := 1) rfl (Dq.up h2 xH)) hok fun dx y Hf hdx xf hf hy => q2 hn dx y Hf ?_ (xH.trans xf) hf hy
    cases z : H dx with
    | none => rfl
    | some o => rw [xH _ _ z] at hdx; cases hdx
end
end Wr

set_option Elab.async false
set_option linter.all false
set_option maxRecDepth 100000
set_option maxHeartbeats 4000000
namespace Wr
open PySem PySem.Spec PyProof.Rows L2 Evl HotX L2H
/-! ### of which kind the exception is that is handled -/
def kindN : List Str := ["NoProgram", "NoPart", "NoRow", "TooLong", "Unsound", "NoNumbers", "NoHook", "TooMany", "Busy", "NoText", "NoWord", "NoMark"]
def kindB : List String := ["ValueError", "KeyError", "IndexError", "OverflowError", "ValueError", "ValueError", "LookupError", "OverflowError", "RuntimeError", "ValueError", "ValueError", "KeyError"]
structure KiM (mg : Str → Option Value) (cs : List Addr) : Prop where
  m0 : mg "NoProgram" = some (.ref (cs.getD 0 0))
  m1 : mg "NoPart" = some (.ref (cs.getD 1 0))
  m2 : mg "NoRow" = some (.ref (cs.getD 2 0))
  m3 : mg "TooLong" = some (.ref (cs.getD 3 0))
  m4 : mg "Unsound" = some (.ref (cs.getD 4 0))
  m5 : mg "NoNumbers" = some (.ref (cs.getD 5 0))
  m6 : mg "NoHook" = some (.ref (cs.getD 6 0))
  m7 : mg "TooMany" = some (.ref (cs.getD 7 0))
  m8 : mg "Busy" = some (.ref (cs.getD 8 0))
  m9 : mg "NoText" = some (.ref (cs.getD 9 0))
  m10 : mg "NoWord" = some (.ref (cs.getD 10 0))
  m11 : mg "NoMark" = some (.ref (cs.getD 11 0))
  nValueError : mg "ValueError" = none
  nKeyError : mg "KeyError" = none
  nIndexError : mg "IndexError" = none
  nOverflowError : mg "OverflowError" = none
  nLookupError : mg "LookupError" = none
  nRuntimeError : mg "RuntimeError" = none
structure KiC (K : PySem.W.Frag) (C : Addr) (cs : List Addr) (i : Nat) (bs : List Bool) : Prop where
  lt : i < 12
  own : ∀ j, j < 12 → PySem.W.kitOne K (.ref C) (.ref (cs.getD j 0)) = some (decide (j = i))
  bas : ∀ j, j < 12 → PySem.W.kitOne K (.ref C) (.type (kindB.getD j "")) = some (bs.getD j false)
  bi : bs.getD i false = true
theorem bkValueError : bootBuiltins "ValueError" = some (.type "ValueError") := by decide +kernel
theorem bkKeyError : bootBuiltins "KeyError" = some (.type "KeyError") := by decide +kernel
theorem bkIndexError : bootBuiltins "IndexError" = some (.type "IndexError") := by decide +kernel
theorem bkOverflowError : bootBuiltins "OverflowError" = some (.type "OverflowError") := by decide +kernel
theorem bkLookupError : bootBuiltins "LookupError" = some (.type "LookupError") := by decide +kernel
theorem bkRuntimeError : bootBuiltins "RuntimeError" = some (.type "RuntimeError") := by decide +kernel
abbrev s_ki : Stmt := topS 48
abbrev NKi : List Str := ["_law_e", "_law_some", "_law_named", "_law_right", "_law_name", "_law_ours", "_law_theirs"]
theorem sc_ki : FnScope NKi ["_law_e"] (defScope s_ki) := ⟨rfl, rfl, rfl, by decide +kernel, rfl, by decide +kernel, by decide +kernel⟩
def kRow (i : Nat) (bs : List Bool) (j : Nat) : PyData := .tuple [.str (kindN.getD j ""), .bool (decide (j = i)), .bool (bs.getD j false)]
def spKi (K : PySem.W.Frag) (cs : List Addr) (p : Addr × Obj) : Sp := fun vs H Q _ => ∃ (C : Addr) (i : Nat) (bs : List Bool), vs = [.ref p.1] ∧ PinC C H p ∧ KiC K C cs i bs ∧ IsxC K C ∧ PySem.W.hasDictIn K C = true ∧ ∀ H', Ex H H' → Q (.str (kindN.getD i "")) H'
theorem g_asg {te : TE} {k : Nat} {ts : TS} {D : Ends} {σ : L2.St} {H : Hp} (h : te σ H fun x H1 => ts D (σ.set k (some x)) H1) : tSeq (tAsg te (gName k)) ts D σ H := h
theorem PinC.up {C : Addr} {H H' : Hp} {p : Addr × Obj} (h : PinC C H p) (x : Ex H H') : PinC C H' p := ⟨h.1, h.2.1, h.2.2.imp (fun ⟨dd, fs, e1, e2⟩ => ⟨dd, fs, e1, x _ _ e2⟩) id⟩
def kSel (c : Nat → Bool) (m : Nat) : List V := ((List.range m).filter c).map fun j => V.str (kindN.getD j "")
theorem lcK {K : PySem.W.Frag} {a0 : V} {s2 s3 s4 s5 s6 : Option V} {H : Hp} {p1 : Addr} {vs : List V} {i : Nat} {bs : List Bool} {tt : TT} {c : Nat → Bool} {Q : VK} (e : H p1 = some (.lst vs)) (d : DqAll K [] H vs ((List.range 12).map (kRow i bs)))
    (ht : ∀ j, j < 12 → ∀ H', EvT tt [some a0, some (.ref p1), s2, s3, some (.str (kindN.getD j "")), some (.bl (decide (j = i))), some (.bl (bs.getD j false))] H' (c j))
    (q : ∀ D H', Ex H H' → H' D = some (.lst (kSel c 12)) → Q (.ref D) H') : tLc (iList K (tVar 1)) (gTup K 3 (gCons (gName 4) (gCons (gName 5) (gCons (gName 6) gNil)))) tt (tVar 4) [4, 5, 6] [some a0, some (.ref p1), s2, s3, s4, s5, s6] H Q := by
  have hl := dps_len d
  rw [List.length_map, List.length_range] at hl
  have hsl : sizeLine = 16777216 := sizeLine_eq
  refine ⟨.ref p1, rfl, p1, rfl, ⟨vs, .inl (.inl e)⟩, fun Dl hD => ?_⟩
  refine lc_it walk_list (fun m H3 => Ex H H3 ∧ H3 Dl = some (.lst (kSel c m))) ⟨Ex.new hD, upd_same⟩ (fun m H3 _ h => .inl (.inl (h.1 _ _ e))) ?_ ?_
  · intro m x H3 H3' hm ⟨x3, e3⟩ ⟨eH, hx⟩
    subst eH
    obtain ⟨dd, hdd, dx⟩ := dps_at d hx
    have hm : m < 12 := by omega
    rw [List.getElem?_map, List.getElem?_range hm] at hdd
    have ed := (Option.some.inj hdd).symm
    subst ed
    have dx : Dq K [] H3' x (kRow i bs m) := Dq.up dx x3
    cases dx with
    | @tup a2 xs2 _ k1 kn2 k2 =>
    cases k2 with
    | @cons v3 _ _ _ m1 k2 =>
    cases k2 with
    | @cons v4 _ _ _ m2 k2 =>
    cases k2 with
    | @cons v5 _ _ _ m3 k2 =>
    cases k2
    have z1 := dq_str (K := K) (b := []) m1
    have z2 := dq_bl (K := K) (b := []) m2
    have z3 := dq_bl (K := K) (b := []) m3
    subst z1 z2 z3
    refine ⟨a2, _, rfl, ex_t hid_le k1, rfl, _, _, rfl, _, _, rfl, _, _, rfl, rfl, rfl, ?_⟩
    refine ht m hm H3' H3' (Ex.refl H3') _ fun H4 x4 => ?_
    have es : kSel c (m + 1) = kSel c m ++ if c m = true then [V.str (kindN.getD m "")] else [] := by
      unfold kSel
      rw [List.range_succ, List.filter_append, List.map_append]
      congr 1
      cases hc : c m with
      | true => simp [List.filter_cons, hc]
      | false => simp [List.filter_cons, hc]
    have ll : (kSel c m).length ≤ 12 := by
      unfold kSel
      rw [List.length_map]
      exact Nat.le_trans (List.length_filter_le _ _) (by rw [List.length_range]; omega)
    cases hc : c m with
    | false =>
      rw [if_neg Bool.false_ne_true]
      rw [es, hc, if_neg Bool.false_ne_true, List.append_nil]
      exact ⟨x3.trans x4, x4 _ _ e3⟩
    | true =>
      rw [if_pos rfl]
      refine ⟨_, rfl, kSel c m, x4 _ _ e3, by omega, Ex.mut (x3.trans x4) hD, ?_⟩
      rw [es, hc, if_pos rfl]
      exact upd_same
  · intro H3 ⟨x3, e3⟩
    rw [hl] at e3
    exact q Dl H3 x3 e3
section
variable {P : Program} {w : World} {K : PySem.W.Frag} {mg : Str → Option Value} {base : Heap} {f : Addr} {fd : FuncData} {cs : List Addr}
theorem ok_ki (D : Def K mg "_law_kind" s_ki ["_law_e"] f fd) (M : KiM mg cs) (B : Blt mg) : FnE P w K mg base 1 f fd ["_law_e"] (spKi K cs) := by
  obtain ⟨oc, od, kV, doc, pm, an, cdv, ct, osl, rfl, lk, hcd⟩ := D.F.ex
  refine fn_ofE (k := 0) lk hcd sc_ki (fun p vs H Q E ⟨_, _, _, e, _⟩ => by rw [e]; rfl) fun p A outer s H vs Q E hot hr h => ?_
  obtain ⟨C, i, bs, rfl, pin, KC, IT, hdc, q⟩ := h
  have hu : (A.deeper (envOfC "_law_kind" (defScope s_ki) s.heap.objs.size f cdv)).units + 64 < cLine := by
    have := hr.un
    omega
  have hpm : p ∈ [p] := List.mem_singleton.mpr rfl
  refine ⟨_, pss_cons (ps_set (i := 1) sc_ki.nd rfl (Or.inl rfl) (pe_lst (pa_cons (pe_tupF (pa_cons pe_str (pa_cons (pe_callB (r := rIsP K C p) (call_isP IT hdc hpm) rfl B.isi bb_isinstance (pa_cons (pv 0) (pa_cons (pe_gR M.m0) pa_nil))) (pa_cons (pe_callB (r := rIsP K C p) (call_isP IT hdc hpm) rfl B.isi bb_isinstance (pa_cons (pv 0) (pa_cons (pe_tyN rfl M.nValueError bkValueError) pa_nil))) pa_nil)))) (pa_cons (pe_tupF (pa_cons pe_str (pa_cons (pe_callB (r := rIsP K C p) (call_isP IT hdc hpm) rfl B.isi bb_isinstance (pa_cons (pv 0) (pa_cons (pe_gR M.m1) pa_nil))) (pa_cons (pe_callB (r := rIsP K C p) (call_isP IT hdc hpm) rfl B.isi bb_isinstance (pa_cons (pv 0) (pa_cons (pe_tyN rfl M.nKeyError bkKeyError) pa_nil))) pa_nil)))) (pa_cons (pe_tupF (pa_cons pe_str (pa_cons (pe_callB (r := rIsP K C p) (call_isP IT hdc hpm) rfl B.isi bb_isinstance (pa_cons (pv 0) (pa_cons (pe_gR M.m2) pa_nil))) (pa_cons (pe_callB (r := rIsP K C p) (call_isP IT hdc hpm) rfl B.isi bb_isinstance (pa_cons (pv 0) (pa_cons (pe_tyN rfl M.nIndexError bkIndexError) pa_nil))) pa_nil)))) (pa_cons (pe_tupF (pa_cons pe_str (pa_cons (pe_callB (r := rIsP K C p) (call_isP IT hdc hpm) rfl B.isi bb_isinstance (pa_cons (pv 0) (pa_cons (pe_gR M.m3) pa_nil))) (pa_cons (pe_callB (r := rIsP K C p) (call_isP IT hdc hpm) rfl B.isi bb_isinstance (pa_cons (pv 0) (pa_cons (pe_tyN rfl M.nOverflowError bkOverflowError) pa_nil))) pa_nil)))) (pa_cons (pe_tupF (pa_cons pe_str (pa_cons (pe_callB (r := rIsP K C p) (call_isP IT hdc hpm) rfl B.isi bb_isinstance (pa_cons (pv 0) (pa_cons (pe_gR M.m4) pa_nil))) (pa_cons (pe_callB (r := rIsP K C p) (call_isP IT hdc hpm) rfl B.isi bb_isinstance (pa_cons (pv 0) (pa_cons (pe_tyN rfl M.nValueError bkValueError) pa_nil))) pa_nil)))) (pa_cons (pe_tupF (pa_cons pe_str (pa_cons (pe_callB (r := rIsP K C p) (call_isP IT hdc hpm) rfl B.isi bb_isinstance (pa_cons (pv 0) (pa_cons (pe_gR M.m5) pa_nil))) (pa_cons (pe_callB (r := rIsP K C p) (call_isP IT hdc hpm) rfl B.isi bb_isinstance (pa_cons (pv 0) (pa_cons (pe_tyN rfl M.nValueError bkValueError) pa_nil))) pa_nil)))) (pa_cons (pe_tupF (pa_cons pe_str (pa_cons (pe_callB (r := rIsP K C p) (call_isP IT hdc hpm) rfl B.isi bb_isinstance (pa_cons (pv 0) (pa_cons (pe_gR M.m6) pa_nil))) (pa_cons (pe_callB (r := rIsP K C p) (call_isP IT hdc hpm) rfl B.isi bb_isinstance (pa_cons (pv 0) (pa_cons (pe_tyN rfl M.nLookupError bkLookupError) pa_nil))) pa_nil)))) (pa_cons (pe_tupF (pa_cons pe_str (pa_cons (pe_callB (r := rIsP K C p) (call_isP IT hdc hpm) rfl B.isi bb_isinstance (pa_cons (pv 0) (pa_cons (pe_gR M.m7) pa_nil))) (pa_cons (pe_callB (r := rIsP K C p) (call_isP IT hdc hpm) rfl B.isi bb_isinstance (pa_cons (pv 0) (pa_cons (pe_tyN rfl M.nOverflowError bkOverflowError) pa_nil))) pa_nil)))) (pa_cons (pe_tupF (pa_cons pe_str (pa_cons (pe_callB (r := rIsP K C p) (call_isP IT hdc hpm) rfl B.isi bb_isinstance (pa_cons (pv 0) (pa_cons (pe_gR M.m8) pa_nil))) (pa_cons (pe_callB (r := rIsP K C p) (call_isP IT hdc hpm) rfl B.isi bb_isinstance (pa_cons (pv 0) (pa_cons (pe_tyN rfl M.nRuntimeError bkRuntimeError) pa_nil))) pa_nil)))) (pa_cons (pe_tupF (pa_cons pe_str (pa_cons (pe_callB (r := rIsP K C p) (call_isP IT hdc hpm) rfl B.isi bb_isinstance (pa_cons (pv 0) (pa_cons (pe_gR M.m9) pa_nil))) (pa_cons (pe_callB (r := rIsP K C p) (call_isP IT hdc hpm) rfl B.isi bb_isinstance (pa_cons (pv 0) (pa_cons (pe_tyN rfl M.nValueError bkValueError) pa_nil))) pa_nil)))) (pa_cons (pe_tupF (pa_cons pe_str (pa_cons (pe_callB (r := rIsP K C p) (call_isP IT hdc hpm) rfl B.isi bb_isinstance (pa_cons (pv 0) (pa_cons (pe_gR M.m10) pa_nil))) (pa_cons (pe_callB (r := rIsP K C p) (call_isP IT hdc hpm) rfl B.isi bb_isinstance (pa_cons (pv 0) (pa_cons (pe_tyN rfl M.nValueError bkValueError) pa_nil))) pa_nil)))) (pa_cons (pe_tupF (pa_cons pe_str (pa_cons (pe_callB (r := rIsP K C p) (call_isP IT hdc hpm) rfl B.isi bb_isinstance (pa_cons (pv 0) (pa_cons (pe_gR M.m11) pa_nil))) (pa_cons (pe_callB (r := rIsP K C p) (call_isP IT hdc hpm) rfl B.isi bb_isinstance (pa_cons (pv 0) (pa_cons (pe_tyN rfl M.nKeyError bkKeyError) pa_nil))) pa_nil)))) pa_nil))))))))))))))
    (pss_cons (ps_setH (i := 2) (own := [("_law_name", 4), ("_law_ours", 5), ("_law_theirs", 6)]) (g := gTup K 3 (gCons (gName 4) (gCons (gName 5) (gCons (gName 6) gNil)))) (tt := tB (tVar 5)) (te := tVar 4) ⟨p, hot, hpm⟩ sc_ki.nd rfl rfl (sw_true rfl rfl rfl rfl) (pv 1) (blkOk_by (N := NKi) (sc := defScope s_ki) (by decide +kernel)) (fun _ _ _ _ _ hh => (pg_tupH hh (pgs_cons (pg_name (i := 4) sc_ki.nd rfl (Or.inl rfl)) (pgs_cons (pg_name (i := 5) sc_ki.nd rfl (Or.inl rfl)) (pgs_cons (pg_name (i := 6) sc_ki.nd rfl (Or.inl rfl)) pgs_nil))))) (fun _ _ _ _ _ => (pts_one (pt_val (pv 5)))) (fun _ _ _ _ _ => (pv 4)))
    (pss_cons (ps_setH (i := 3) (own := [("_law_name", 4), ("_law_ours", 5), ("_law_theirs", 6)]) (g := gTup K 3 (gCons (gName 4) (gCons (gName 5) (gCons (gName 6) gNil)))) (tt := tAnd (tB (tVar 5)) (tB (tVar 6))) (te := tVar 4) ⟨p, hot, hpm⟩ sc_ki.nd rfl rfl (sw_true rfl rfl rfl rfl) (pv 1) (blkOk_by (N := NKi) (sc := defScope s_ki) (by decide +kernel)) (fun _ _ _ _ _ hh => (pg_tupH hh (pgs_cons (pg_name (i := 4) sc_ki.nd rfl (Or.inl rfl)) (pgs_cons (pg_name (i := 5) sc_ki.nd rfl (Or.inl rfl)) (pgs_cons (pg_name (i := 6) sc_ki.nd rfl (Or.inl rfl)) pgs_nil))))) (fun _ _ _ _ _ => (pts_one (PW.pt (pw_and (pt_val (pv 5)) (pw_and1 (pt_val (pv 6))))))) (fun _ _ _ _ _ => (pv 4)))
    (pss_cons (ps_if (PW.pt (pw_and (pt_cmpR op_eq (pe_callB call_lenD1 rfl B.len bb_len (pa_cons (pv 2) pa_nil)) pe_int (nomark _)) (pw_and1 (pt_cmpR (op_eqV hu) (pv 2) (pv 3) (nomark _))))) (pss_one (ps_ret (pe_ix ix_list (pv 2) pe_int (fun _ _ => rfl)))) pss_nil)
    (pss_one (ps_ret pe_str))))), ?_⟩
  have hsl : sizeLine = 16777216 := sizeLine_eq
  have kn0 : ∀ {H' : Hp}, Kn [] H' := fun z hz => nomatch hz
  have hid0 : ∀ H' : Hp, hid [] H' = H' := fun H' => by
    funext c
    exact hid_ne (by intro z; cases z)
  have isx : ∀ {σ' H'} {c : V} {cv : Value} {k : Bool}, σ'[0]? = some (some (.ref p.1)) → Ex H H' → (∀ u, RelV c u → u = cv) → PySem.W.kitOne K (.ref C) cv = some k → ED K [] (tCB (rIsP K C p) (tCons (tVar 0) (tCons (tC c) tNil))) σ' H' (.bool k) := fun {σ' H' c cv k} e x hu hk H1 x1 Q q => ⟨.ref p.1, e, pin.up (x.trans x1), c, cv, k, rfl, hu, hk, q _ H1 (Ex.refl H1) (.bl k)⟩
  have s3 : ∀ {x y z : PyData}, [x, y, z].length ≤ sizeLine := fun {x y z} => by show 3 ≤ sizeLine; omega
  refine g_lst (K := K) (b := []) (ds := (List.range 12).map (kRow i bs)) kn0 (ea_cons (ed_tup kn0 (ea_cons ed_str (ea_cons (isx rfl (Ex.refl H) (fun u hu => by cases hu; rfl) (KC.own 0 (by decide))) (ea_cons (isx rfl (Ex.refl H) (fun u hu => by cases hu; rfl) (KC.bas 0 (by decide))) ea_nil))) s3) (ea_cons (ed_tup kn0 (ea_cons ed_str (ea_cons (isx rfl (Ex.refl H) (fun u hu => by cases hu; rfl) (KC.own 1 (by decide))) (ea_cons (isx rfl (Ex.refl H) (fun u hu => by cases hu; rfl) (KC.bas 1 (by decide))) ea_nil))) s3) (ea_cons (ed_tup kn0 (ea_cons ed_str (ea_cons (isx rfl (Ex.refl H) (fun u hu => by cases hu; rfl) (KC.own 2 (by decide))) (ea_cons (isx rfl (Ex.refl H) (fun u hu => by cases hu; rfl) (KC.bas 2 (by decide))) ea_nil))) s3) (ea_cons (ed_tup kn0 (ea_cons ed_str (ea_cons (isx rfl (Ex.refl H) (fun u hu => by cases hu; rfl) (KC.own 3 (by decide))) (ea_cons (isx rfl (Ex.refl H) (fun u hu => by cases hu; rfl) (KC.bas 3 (by decide))) ea_nil))) s3) (ea_cons (ed_tup kn0 (ea_cons ed_str (ea_cons (isx rfl (Ex.refl H) (fun u hu => by cases hu; rfl) (KC.own 4 (by decide))) (ea_cons (isx rfl (Ex.refl H) (fun u hu => by cases hu; rfl) (KC.bas 4 (by decide))) ea_nil))) s3) (ea_cons (ed_tup kn0 (ea_cons ed_str (ea_cons (isx rfl (Ex.refl H) (fun u hu => by cases hu; rfl) (KC.own 5 (by decide))) (ea_cons (isx rfl (Ex.refl H) (fun u hu => by cases hu; rfl) (KC.bas 5 (by decide))) ea_nil))) s3) (ea_cons (ed_tup kn0 (ea_cons ed_str (ea_cons (isx rfl (Ex.refl H) (fun u hu => by cases hu; rfl) (KC.own 6 (by decide))) (ea_cons (isx rfl (Ex.refl H) (fun u hu => by cases hu; rfl) (KC.bas 6 (by decide))) ea_nil))) s3) (ea_cons (ed_tup kn0 (ea_cons ed_str (ea_cons (isx rfl (Ex.refl H) (fun u hu => by cases hu; rfl) (KC.own 7 (by decide))) (ea_cons (isx rfl (Ex.refl H) (fun u hu => by cases hu; rfl) (KC.bas 7 (by decide))) ea_nil))) s3) (ea_cons (ed_tup kn0 (ea_cons ed_str (ea_cons (isx rfl (Ex.refl H) (fun u hu => by cases hu; rfl) (KC.own 8 (by decide))) (ea_cons (isx rfl (Ex.refl H) (fun u hu => by cases hu; rfl) (KC.bas 8 (by decide))) ea_nil))) s3) (ea_cons (ed_tup kn0 (ea_cons ed_str (ea_cons (isx rfl (Ex.refl H) (fun u hu => by cases hu; rfl) (KC.own 9 (by decide))) (ea_cons (isx rfl (Ex.refl H) (fun u hu => by cases hu; rfl) (KC.bas 9 (by decide))) ea_nil))) s3) (ea_cons (ed_tup kn0 (ea_cons ed_str (ea_cons (isx rfl (Ex.refl H) (fun u hu => by cases hu; rfl) (KC.own 10 (by decide))) (ea_cons (isx rfl (Ex.refl H) (fun u hu => by cases hu; rfl) (KC.bas 10 (by decide))) ea_nil))) s3) (ea_cons (ed_tup kn0 (ea_cons ed_str (ea_cons (isx rfl (Ex.refl H) (fun u hu => by cases hu; rfl) (KC.own 11 (by decide))) (ea_cons (isx rfl (Ex.refl H) (fun u hu => by cases hu; rfl) (KC.bas 11 (by decide))) ea_nil))) s3) ea_nil)))))))))))) (by show 12 ≤ sizeLine; omega) fun p1 vs1 H1 hp1 x1 e1 d1 => ?_
  show tSeq _ _ _ [some (.ref p.1), some (.ref p1), none, none, none, none, none] H1
  refine g_asg (lcK (a0 := .ref p.1) (c := fun j => decide (j = i)) e1 d1 (fun j hj H' => et_b (K := K) (b := []) (ed_var (i := 5) rfl (.bl _))) fun D2 H2 x2 e2 => ?_)
  show tSeq _ _ _ [some (.ref p.1), some (.ref p1), some (.ref D2), none, none, none, none] H2
  refine g_asg (lcK (a0 := .ref p.1) (c := fun j => decide (j = i) && bs.getD j false) (x2 _ _ e1) (DqAll.up d1 x2) (fun j hj H' => et_and (et_b (K := K) (b := []) (ed_var (i := 5) rfl (.bl _))) fun _ => et_b (K := K) (b := []) (ed_var (i := 6) rfl (.bl _))) fun D3 H3 x3 e3 => ?_)
  show tSeq _ _ _ [some (.ref p.1), some (.ref p1), some (.ref D2), some (.ref D3), none, none, none] H3
  have one : ∀ i, i < 12 → (List.range 12).filter (fun j => decide (j = i)) = [i] := by decide
  have same : (fun j => decide (j = i) && bs.getD j false) = fun j => decide (j = i) := by
    funext j
    by_cases h : j = i
    · rw [h, KC.bi, Bool.and_true]
    · rw [decide_eq_false h, Bool.false_and]
  have k1 : kSel (fun j => decide (j = i)) 12 = [V.str (kindN.getD i "")] := by
    unfold kSel
    rw [one i KC.lt]
    rfl
  rw [same, k1] at e3
  rw [k1] at e2
  have e23 := x3 _ _ e2
  have l2 : Dq K [] H3 (.ref D2) (.list [.str (kindN.getD i "")]) := .lst (.inl (.inl (by rw [hid0]; exact e23))) (.cons (.str _) .nil)
  have t1 : EvT (tTest (tOp rEq (tCB (rLen K) (tCons (tVar 2) tNil)) (tC (.int 1)))) [some (.ref p.1), some (.ref p1), some (.ref D2), some (.ref D3), none, none, none] H3 true := et_t (K := K) (b := []) (ed_op (ed_len (ed_var (i := 2) rfl l2) (.inr (.inl rfl)) fun y e => by cases e) (ed_int (i := 1)) fun H4 u v Q _ hu hv q => by
    have z1 := dq_int hu
    have z2 := dq_int hv
    subst z1 z2
    exact ⟨rfl, q _ H4 (Ex.refl H4) (.bl _)⟩)
  have t2 : EvT (tTest (tOp (rEqV K) (tVar 2) (tVar 3))) [some (.ref p.1), some (.ref p1), some (.ref D2), some (.ref D3), none, none, none] H3 true := fun H4 x4 Q q => ⟨.ref D2, rfl, .ref D3, rfl, 1, by decide, .inl ⟨D2, D3, _, _, rfl, rfl, .inl (.inl (x4 _ _ e23)), .inl (.inl (x4 _ _ e3)), .cons (.inl ⟨rfl, rfl⟩) .nil⟩, true, rfl, q H4 (Ex.refl H4)⟩
  have t12 := et_and t1 fun _ => t2
  refine t12 H3 (Ex.refl H3) _ fun H4 x4 => ?_
  show (if true = true then _ else _)
  rw [if_pos rfl]
  exact ⟨.ref D2, rfl, D2, _, 0, _, rfl, rfl, .inl (.inl (x4 _ _ e23)), rfl, q H4 (x1.trans (x2.trans (x3.trans x4)))⟩
end
end Wr

set_option Elab.async false
set_option linter.all false
set_option maxRecDepth 100000
set_option maxHeartbeats 4000000
namespace Wr
open PySem PySem.Spec PyProof.Rows L2 Evl
structure PgIn (K : PySem.W.Frag) (b : List Addr) (H : Hp) (v : V) (ds : List PyData) (ps : List PartV) : Prop where
  kn : Kn b H
  dq : Dq K b H v (.tuple ds)
  pr : progD (.tuple ds) = true
  ok : okD 30 (.tuple ds) = true
  pv : PrgV ds ps
theorem PgIn.up {K : PySem.W.Frag} {b : List Addr} {H H' : Hp} {v : V} {ds : List PyData} {ps : List PartV} (h : PgIn K b H v ds ps) (x : Ex H H') : PgIn K b H' v ds ps := ⟨h.kn.up x, Dq.up h.dq x, h.pr, h.ok, h.pv⟩
theorem dq_pd {K : PySem.W.Frag} {H : Hp} {v : V} {p : PartV} (h : Dd K H v p.d) : ∃ a v1 v2 v3, v = .ref a ∧ SqT K H a [v1, v2, v3] ∧ Dd K H v1 (.str p.x) ∧ Dd K H v2 (.tuple (p.ns.map .str)) ∧ Dd K H v3 (.tuple p.rs) := by
  unfold PartV.d at h
  cases h with
  | tup h1 _ h2 =>
    cases h2 with
    | cons a1 h2 =>
      cases h2 with
      | cons a2 h2 =>
        cases h2 with
        | cons a3 h2 =>
          cases h2
          exact ⟨_, _, _, _, rfl, h1, a1, a2, a3⟩
abbrev ChkG (P : Program) (w : World) (K : PySem.W.Frag) (mg : Str → Option Value) (base : Heap) (g : Addr) (gd : FuncData) : Prop := FnOk P w K mg base CX0 6 g gd ["thing"] (spP K (fun ds => ds.length = 1 ∧ ∀ d, ds = [d] → okD 30 d = true ∧ progD d = true) fun _ => .none)
theorem XP.up {K : PySem.W.Frag} {C : Addr} {b : List Addr} {H H' : Hp} {d : PyData} {E : XK} (h : XP K C b H d E) (x : Ex H H') : XP K C b H' d E := fun dx y Hf n x' e hy => h dx y Hf (by
  cases z : H dx with
  | none => rfl
  | some o => rw [x _ _ z] at n; cases n) (x.trans x') e hy
theorem XR.up {K : PySem.W.Frag} {C : Addr} {b : List Addr} {H H' : Hp} {d : PyData} {E : XK} (h : XR K C b H d E) (x : Ex H H') : XR K C b H' d E := fun dx y Hf n x' e hy => h dx y Hf (by
  cases z : H dx with
  | none => rfl
  | some o => rw [x _ _ z] at n; cases n) (x.trans x') e hy
abbrev s_rows : Stmt := topS 37
abbrev s_pn : Stmt := topS 38
abbrev s_ra : Stmt := topS 39
abbrev s_cr : Stmt := topS 40
theorem sc_rows : FnScope ["program", "part"] ["program", "part"] (defScope s_rows) := ⟨rfl, rfl, rfl, by decide +kernel, rfl, by decide +kernel, by decide +kernel⟩
theorem sc_pn : FnScope ["program", "part"] ["program", "part"] (defScope s_pn) := ⟨rfl, rfl, rfl, by decide +kernel, rfl, by decide +kernel, by decide +kernel⟩
theorem sc_ra : FnScope ["program", "part", "row", "rows"] ["program", "part", "row"] (defScope s_ra) := ⟨rfl, rfl, rfl, by decide +kernel, rfl, by decide +kernel, by decide +kernel⟩
theorem sc_cr : FnScope ["rows", "thing"] ["rows", "thing"] (defScope s_cr) := ⟨rfl, rfl, rfl, by decide +kernel, rfl, by decide +kernel, by decide +kernel⟩
def spPn (K : PySem.W.Frag) (C : Addr) : Sp := fun vs H Q E => ∃ (b : List Addr) (v v2 : V) (ds : List PyData) (ps : List PartV) (part : PyData), vs = [v, v2] ∧ PgIn K b H v ds ps ∧ Dq K b H v2 part ∧ okD 30 part = true ∧
  (∀ i, posV ps part = some i → ∀ H', Ex H H' → Q (.int (i : Nat)) H') ∧ (posV ps part = none → XP K C b H part E)
def spRo (K : PySem.W.Frag) (C : Addr) : Sp := fun vs H Q E => ∃ (b : List Addr) (v v2 : V) (ds : List PyData) (ps : List PartV) (part : PyData), vs = [v, v2] ∧ PgIn K b H v ds ps ∧ Dq K b H v2 part ∧ okD 30 part = true ∧
  (∀ i p, posV ps part = some i → ps[i]? = some p → ∀ u H', Ex H H' → Dq K b H' u (.tuple p.rs) → Q u H') ∧ (posV ps part = none → XP K C b H part E)
def spCr (K : PySem.W.Frag) (C : Addr) : Sp := fun vs H Q E => ∃ (b : List Addr) (v v2 : V) (rs : List PyData) (d : PyData), vs = [v, v2] ∧ Kn b H ∧ Dq K b H v (.tuple rs) ∧ Dq K b H v2 d ∧ okD 30 d = true ∧
  (indexD d (rs.length : Nat) = true → ∀ H', Ex H H' → Q .non H') ∧ (indexD d (rs.length : Nat) = false → XR K C b H d E)
def spRa (K : PySem.W.Frag) (C C2 : Addr) : Sp := fun vs H Q E => ∃ (b : List Addr) (v v2 v3 : V) (ds : List PyData) (ps : List PartV) (part d : PyData), vs = [v, v2, v3] ∧ PgIn K b H v ds ps ∧ Dq K b H v2 part ∧ okD 30 part = true ∧ Dq K b H v3 d ∧ okD 30 d = true ∧
  (posV ps part = none → XP K C b H part E) ∧ ∀ i p, posV ps part = some i → ps[i]? = some p → (indexD d (p.rs.length : Nat) = false → XR K C2 b H d E) ∧ ∀ (j : Nat) r, d = .int (j : Nat) → p.rs[j]? = some r → ∀ u H', Ex H H' → Dq K b H' u r → Q u H'
section
variable {P : Program} {w : World} {K : PySem.W.Frag} {mg : Str → Option Value} {base : Heap} {C C2 fI fI2 f g g2 g3 g4 : Addr} {fd gd gd2 gd3 gd4 fdI fdI2 : FuncData}
theorem ok_rowsof (D : Def K mg "rows_of" s_rows ["program", "part"] f fd) (D2 : Def K mg "place_of" s_place ["program", "part"] g2 gd2) (G2 : FnOk P w K mg base (L2N.CX P w) 4 g2 gd2 ["program", "part"] (spPl K C)) : FnOk P w K mg base (L2N.CX P w) 5 f fd ["program", "part"] (spRo K C) := by
  refine okN D.F sc_rows (fun vs H Q E ⟨_, _, _, _, _, _, e, _⟩ => by rw [e]; rfl) (fun cdv A outer s H vs Q E hr h => ?_)
  obtain ⟨b, v, v2, ds, ps, part, rfl, PI, h2, hok, q1, q2⟩ := h
  refine ⟨_, pss_one (ps_ret (pe_ix ix_tup (pe_ix ix_tup (pv 0) (pe_callS (E := WE fun cls d _ H => E cls d H) G2 hr rfl D2.m D2.F.kp D2.b (fun σ => L2N.passAt (L2N.takes_of rfl rfl rfl rfl) σ) (pa_cons (pv 0) (pa_cons (pv 1) pa_nil))) (fun _ _ => rfl)) pe_int (fun _ _ => rfl))), ?_⟩
  have pV := PI.pv
  refine ⟨v, rfl, v, rfl, v2, rfl, b, ds, ps, part, PI.kn, .cons PI.dq (.cons h2 .nil), pV, hok, fun i hi H2 x2 => ?_, q2⟩
  have hil : i < ps.length := (List.findIdx?_eq_some_iff_getElem.mp hi).1
  have hp : ps[i]? = some ps[i] := List.getElem?_eq_getElem hil
  generalize ps[i] = p at hp
  have hdi : ds[i]? = some p.d := by rw [pV.e, List.getElem?_map, hp]; rfl
  have dq2 := (PI.up x2).dq
  cases dq2 with
  | @tup a xs _ g1 gn g2 =>
  obtain ⟨u, hu, du⟩ := dps_get g2 hdi
  obtain ⟨a2, v1, vn, vr, rfl, k1, k2, k3, k4⟩ := dq_pd du
  exact ⟨a, xs, (i : Nat), .ref a2, rfl, rfl, ex_t hid_le g1, atI_nat hu, a2, [v1, vn, vr], 2, vr, rfl, rfl, ex_t hid_le k1, rfl, q1 i p hi hp vr H2 x2 k4⟩
theorem ok_pn (D : Def K mg "part_number" s_pn ["program", "part"] f fd) (D1 : Def K mg "check_program" s_check ["thing"] g gd) (G1 : ChkG P w K mg base g gd) (D2 : Def K mg "place_of" s_place ["program", "part"] g2 gd2) (G2 : FnOk P w K mg base (L2N.CX P w) 4 g2 gd2 ["program", "part"] (spPl K C)) : FnOk P w K mg base (L2N.CX P w) 7 f fd ["program", "part"] (spPn K C) := by
  refine okN D.F sc_pn (fun vs H Q E ⟨_, _, _, _, _, _, e, _⟩ => by rw [e]; rfl) (fun cdv A outer s H vs Q E hr h => ?_)
  obtain ⟨b, v, v2, ds, ps, part, rfl, PI, h2, hok, q1, q2⟩ := h
  have hr4 : Room 4 _ := hr.mono (by decide)
  refine ⟨_, pss_cons (ps_expr (pe_cd D1 G1 hr (pa_cons (pv 0) pa_nil)))
    (pss_one (ps_ret (pe_callS (E := WE fun cls d _ H => E cls d H) G2 hr4 rfl D2.m D2.F.kp D2.b (fun σ => L2N.passAt (L2N.takes_of rfl rfl rfl rfl) σ) (pa_cons (pv 0) (pa_cons (pv 1) pa_nil))))), ?_⟩
  refine (ed_call (K := K) (b := b) (σ := start ["program", "part"] [v, v2]) (pre := fun ds => ds.length = 1 ∧ ∀ d, ds = [d] → okD 30 d = true ∧ progD d = true) (f := fun _ => .none) (E := E0) PI.kn (ea_cons (ed_var (i := 0) rfl PI.dq) ea_nil) ⟨rfl, fun d' e => by cases e; exact ⟨PI.ok, PI.pr⟩⟩) H (Ex.refl H) _ fun v0 H1 x1 _ => ?_
  have P1 := PI.up x1
  exact ⟨v, rfl, v2, rfl, b, ds, ps, part, P1.kn, .cons P1.dq (.cons (Dq.up h2 x1) .nil), P1.pv, hok, fun i hi H2 x2 => q1 i hi H2 (x1.trans x2), fun hn => (q2 hn).up x1⟩
theorem ok_cr (T : NrC K mg C fI fdI) (Dc : Def K mg "own_copy" s_copy ["thing"] g2 gd2) (D : Def K mg "check_row" s_cr ["rows", "thing"] f fd) (D1 : Def K mg "is_index" s_is_index ["thing", "many"] g gd) (G1 : FnOk P w K mg base CX0 2 g gd ["thing", "many"] (spP K (fun ds => ds.length = 2 ∧ ∀ d n, ds = [d, n] → ∃ i, n = .int i) (F2 fun d n => indexD d (intOf n)))) (B : Blt mg) : FnOk P w K mg base (L2N.CX P w) 4 f fd ["rows", "thing"] (spCr K C) := by
  refine okN D.F sc_cr (fun vs H Q E ⟨_, _, _, _, _, e, _⟩ => by rw [e]; rfl) (fun cdv A outer s H vs Q E hr h => ?_)
  obtain ⟨b, v, v2, rs, d, rfl, kn, h1, h2, hok, q1, q2⟩ := h
  refine ⟨_, pss_one (ps_if (pt_not (pt_val (pe_cd D1 G1 (hr.mono (by decide)) (pa_cons (pv 1) (pa_cons (pe_callB call_lenD1 rfl B.len bb_len (pa_cons (pv 0) pa_nil)) pa_nil))))) (pss_one (ps_nrN (W := fun cls d _ H => E cls d H) T Dc B rfl (L2N.takes_of rfl rfl rfl rfl) hr (pv 1))) pss_nil), ?_⟩
  have t1 := et_n (et_b ((ed_call (K := K) (b := b) (σ := start ["rows", "thing"] [v, v2]) (H := H) (pre := fun ds => ds.length = 2 ∧ ∀ d n, ds = [d, n] → ∃ i, n = .int i) (f := F2 fun d n => indexD d (intOf n)) (E := E0) kn (ea_cons (ed_var (i := 1) rfl h2) (ea_cons (ed_len (ed_var (i := 0) rfl h1) (.inr (.inr rfl)) fun y e => by cases e) ea_nil)) ⟨rfl, fun d' n e => by cases e; exact ⟨_, rfl⟩⟩).to (e := .bool (indexD d (rs.length : Nat))) rfl))
  refine t1 H (Ex.refl H) _ fun H1 x1 => ?_
  cases hi : indexD d (rs.length : Nat) with
  | true =>
    show (if (!true) = true then _ else _)
    rw [show (!true) = false from rfl, if_neg Bool.false_ne_true]
    exact q1 hi H1 x1
  | false =>
    show (if (!false) = true then _ else _)
    rw [show (!false) = true from rfl, if_pos rfl]
    exact mk_nr T.T T.n (kn.up x1) (ed_var (i := 1) rfl (Dq.up h2 x1)) hok ((q2 hi).up x1)
end
end Wr

set_option Elab.async false
set_option linter.all false
set_option maxRecDepth 100000
set_option maxHeartbeats 4000000
namespace Wr
open PySem PySem.Spec PyProof.Rows L2 Evl
theorem index_int {d : PyData} {m : Int} (h : indexD d m = true) : ∃ j : Nat, d = .int (j : Nat) ∧ ((j : Nat) : Int) < m := by
  cases d with
  | int i =>
    have h : (decide (0 ≤ i) && decide (i < m)) = true := h
    rw [Bool.and_eq_true] at h
    have h1 := of_decide_eq_true h.1
    have h2 := of_decide_eq_true h.2
    exact ⟨i.toNat, by rw [show ((i.toNat : Nat) : Int) = i by omega], by omega⟩
  | _ => cases h
section
variable {P : Program} {w : World} {K : PySem.W.Frag} {mg : Str → Option Value} {base : Heap} {C C2 fI fI2 f g g2 g3 g4 : Addr} {fd gd gd2 gd3 gd4 fdI fdI2 : FuncData}
theorem ok_ra (D : Def K mg "row_at" s_ra ["program", "part", "row"] f fd) (D1 : Def K mg "check_program" s_check ["thing"] g gd) (G1 : ChkG P w K mg base g gd) (D2 : Def K mg "rows_of" s_rows ["program", "part"] g2 gd2) (G2 : FnOk P w K mg base (L2N.CX P w) 5 g2 gd2 ["program", "part"] (spRo K C))
    (D3 : Def K mg "check_row" s_cr ["rows", "thing"] g3 gd3) (G3 : FnOk P w K mg base (L2N.CX P w) 4 g3 gd3 ["rows", "thing"] (spCr K C2)) : FnOk P w K mg base (L2N.CX P w) 7 f fd ["program", "part", "row"] (spRa K C C2) := by
  refine okN D.F sc_ra (fun vs H Q E ⟨_, _, _, _, _, _, _, _, e, _⟩ => by rw [e]; rfl) (fun cdv A outer s H vs Q E hr h => ?_)
  obtain ⟨b, v, v2, v3, ds, ps, part, d, rfl, PI, h2, hok, h3, hok3, q2, q1⟩ := h
  refine ⟨_, pss_cons (ps_expr (pe_cd D1 G1 hr (pa_cons (pv 0) pa_nil)))
    (pss_cons (ps_set (i := 3) sc_ra.nd rfl (Or.inl rfl) (pe_callS (E := WE fun cls d _ H => E cls d H) G2 (hr.mono (by decide)) rfl D2.m D2.F.kp D2.b (fun σ => L2N.passAt (L2N.takes_of rfl rfl rfl rfl) σ) (pa_cons (pv 0) (pa_cons (pv 1) pa_nil))))
    (pss_cons (ps_expr (pe_callS (E := WE fun cls d _ H => E cls d H) G3 (hr.mono (by decide)) rfl D3.m D3.F.kp D3.b (fun σ => L2N.passAt (L2N.takes_of rfl rfl rfl rfl) σ) (pa_cons (pv 3) (pa_cons (pv 2) pa_nil))))
    (pss_one (ps_ret (pe_ix ix_tup (pv 3) (pv 2) (fun _ _ => rfl)))))), ?_⟩
  refine (ed_call (K := K) (b := b) (σ := start ["program", "part", "row", "rows"] [v, v2, v3]) (pre := fun ds => ds.length = 1 ∧ ∀ d, ds = [d] → okD 30 d = true ∧ progD d = true) (f := fun _ => .none) (E := E0) PI.kn (ea_cons (ed_var (i := 0) rfl PI.dq) ea_nil) ⟨rfl, fun d' e => by cases e; exact ⟨PI.ok, PI.pr⟩⟩) H (Ex.refl H) _ fun v0 H1 x1 _ => ?_
  have P1 := PI.up x1
  refine ⟨v, rfl, v2, rfl, b, v, v2, ds, ps, part, rfl, P1, Dq.up h2 x1, hok, fun i p hi hp u H2 x2 hu => ?_, fun hn => (q2 hn).up x1⟩
  obtain ⟨qa, qb⟩ := q1 i p hi hp
  have x12 := x1.trans x2
  have h32 := Dq.up h3 x12
  refine ⟨u, rfl, v3, rfl, b, u, v3, p.rs, d, rfl, P1.kn.up x2, hu, h32, hok3, fun hx H3 x3 => ?_, fun hx => (qa hx).up x12⟩
  obtain ⟨j, rfl, hj⟩ := index_int hx
  have hj' : j < p.rs.length := by omega
  have hr' : p.rs[j]? = some p.rs[j] := List.getElem?_eq_getElem hj'
  show tRet (tOp (rIxT K) (tVar 3) (tVar 2)) _ [some v, some v2, some v3, some u] H3
  exact (ed_ixT (K := K) (b := b) (ed_var (i := 3) rfl (Dq.up hu x3)) (ed_var (i := 2) rfl (Dq.up h32 x3)) (atI_nat hr')) H3 (Ex.refl H3) _ fun r H4 x4 hr4 => qb j _ rfl hr' r H4 (x12.trans (x3.trans x4)) hr4
end
end Wr

set_option Elab.async false
set_option linter.all false
set_option maxRecDepth 100000
set_option maxHeartbeats 4000000
namespace Wr
open PySem PySem.Spec PyProof.Rows L2
/-! ### two clauses 'except x as n' -/
/-- an exception on the ground, ahead of the clauses -/
structure Ld (X : Cx) (pins : List (Addr × Obj)) (a : Addr) (B : Heap) (σ : L2.St) (H : Hp) (sI s : Shared) (cls : Value) (d : Option Addr) : Prop where
  J : L2.Inv X pins σ H sI
  nb : ∀ b o, sI.heap.get? b = some o → b ∉ frs X.stack → B.get? b = some o
  up : sI.heap.UpToSlots s.heap
  fl : HandSPX.FlyingZ B (X.env :: X.outer) a (L2N.Zn cls d) s.heap
  na : H a = none
  os : s.os = sI.os
  ag : AllBare s.gens
/-- what a clause makes of it -/
def wCl (i : Nat) (ts : Addr → Value → Option Addr → TS) (D : Ends) (cls : Value) (d : Option Addr) (σ : L2.St) (H : Hp) : Prop := ∀ a, H a = none → ts a cls d { nx := fun σ' H' => D.nx (σ'.set i none) H', rt := D.rt, bk := fun σ' H' => D.bk (σ'.set i none) H', ct := fun σ' H' => D.ct (σ'.set i none) H' } (σ.set i (some (.ref a))) H
section
variable {X : Cx} {pins : List (Addr × Obj)} {a : Addr} {B : Heap} {σ : L2.St} {H : Hp} {sI s : Shared} {cls : Value} {d : Option Addr} {x n : Str} {c : Value} {i : Nat} {suite : List Stmt} {b₀ : Stmt} {np pos' : Pos} {ts : Addr → Value → Option Addr → TS} {more : List ExceptHandler} {D : Ends}
theorem Ld.no (L : Ld X pins a B σ H sI s cls d) (hf : X.env.frame = some X.env.locals) : ∃ oe vs, s.heap.get? a = some oe ∧ L2N.Zn cls d oe ∧ oe.data = .fields vs ∧ a ≠ X.env.locals ∧ a ∉ X.fs := by
  obtain ⟨oe, vs, e, z, dd⟩ := L.fl.there
  have nfr : a ∉ frs (X.env :: X.outer) := fun hm => by
    obtain ⟨_, o', e', hnf⟩ := L.fl.2.2.1.mem hm
    rw [e] at e'
    cases e'
    exact hnf _ dd
  exact ⟨oe, vs, e, z, dd, fun y => nfr (List.mem_filterMap.mpr ⟨X.env, List.mem_cons_self, y ▸ hf⟩), fun hm => let ⟨e, he, q⟩ := List.mem_filterMap.mp hm; nfr (List.mem_filterMap.mpr ⟨e, List.mem_cons_of_mem _ he, q⟩)⟩
theorem Ld.eval (L : Ld X pins a B σ H sI s cls d) (hf : X.env.frame = some X.env.locals) (hc : Names X x c) {Q : Value → Shared → Prop} {E : Value → Shared → Prop} (q : Q c s) : wpAny (model X.prog X.w) (X.A.mark (some (.ref a))) (eval (.Name x np) X.env) Q E s := by
  obtain ⟨oe, vs, e, z, dd, nL, nF⟩ := L.no hf
  have S := (L.J.landed L.nb L.fl.1 L.up L.os L.ag).suite e dd L.na nL nF
  rcases hc with ⟨hg, hdb, hm | ⟨hm, hv, hnn⟩⟩
  · exact ld_glob (X := X.suite a ((a, oe) :: (X.pn ++ pins))) S hg hm q hdb
  · exact ld_blt (X := X.suite a ((a, oe) :: (X.pn ++ pins))) S hg hm hv q hnn hdb
theorem Ld.match (L : Ld X pins a B σ H sI s cls d) (hf : X.env.frame = some X.env.locals) {k : Bool} (hk : PySem.W.exmOne X.K cls c = some k) {A : Around} {Q : Bool → Shared → Prop} {E : Value → Shared → Prop} (q : Q k s) : wpAny (model X.prog X.w) A (excMatches (.ref a) c) Q E s := by
  obtain ⟨oe, vs, e, z, dd, nL, nF⟩ := L.no hf
  have J := L.J.landed L.nb L.fl.1 L.up L.os L.ag
  have lt : PySem.W.Looks (model X.prog X.w) s.heap (typeOf (.ref a)) cls := fun A Q E s k q => wpAny_typeOf_ref (k _ _ e) (by rw [z.1]; exact q)
  exact (PySem.W.exm_one (M := model X.prog X.w) J.kIn lt hk).here q
/-- the clause doesn't name it -/
theorem Ld.pass (L : Ld X pins a B σ H sI s cls d) (hf : X.env.frame = some X.env.locals) (hc : Names X x c) (hk : PySem.W.exmOne X.K cls c = some false) {Q : Flow → Shared → Prop} {E : Value → Shared → Prop}
    (h : wpAny (model X.prog X.w) X.A (handleBy (.ref a) X.env more) Q E s) : wpAny (model X.prog X.w) X.A (handleBy (.ref a) X.env (.ExceptHandler (some (.Name x np)) (some n) (b₀ :: suite) pos' :: more)) Q E s :=
  wpAny_handleBy_cons (codeAny_handlers_test (L.eval hf hc (L.match hf hk h))) (by intro q; cases q)
/-- the clause takes it -/
theorem Ld.take (L : Ld X pins a B σ H sI s cls d) (hf : X.env.frame = some X.env.locals) (hN : X.N.Nodup) (hi : X.N[i]? = some n) (hln : X.env.kindOf n = some .local) (hc : Names X x c) (hk : PySem.W.exmOne X.K cls c = some true)
    (hsu : ∀ (a : Addr) (oe : Obj) (cls : Value) (d : Option Addr) (pn : List (Addr × Obj)), L2N.Zn cls d oe → (∃ vs, oe.data = .fields vs) → PSs (X.suite a ((a, oe) :: pn)) (b₀ :: suite) (ts a cls d)) (h : wCl i ts D cls d σ H) :
    wpAny (model X.prog X.w) X.A (handleBy (.ref a) X.env (.ExceptHandler (some (.Name x np)) (some n) (b₀ :: suite) pos' :: more)) (SP X pins D) X.xe s := by
  refine wpAny_handleBy_cons (codeAny_handlers_test (L.eval hf hc (L.match hf hk (codeAny_handlers_suite_as (HandSPX.lands_againZ L.fl fun h4 fl4 up4 => ?_))))) (by intro q; cases q)
  have L4 : Ld X pins a B σ H sI { s with heap := h4 } cls d := ⟨L.J, L.nb, L.up.trans up4, fl4, L.na, L.os, L.ag⟩
  obtain ⟨oe, vs, e, z, dd, nL, nF⟩ := L4.no hf
  have S := (L4.J.landed L4.nb L4.fl.1 L4.up L4.os L4.ag).suite e dd L4.na nL nF
  have okX := L.J.ok
  refine store_ok (X := X.suite a ((a, oe) :: (X.pn ++ pins))) (v := .ref a) S hN hi (.inl hln) rfl (fun s5 S5 => wpAny_mono ((hsu a oe cls d (X.pn ++ pins) z ⟨_, dd⟩).run [] s5 _ H _ S5 (h a L.na)) (fun f s6 hsp => ?_) (fun _ _ z => False.elim z)) (.inr hln)
  have fin : ∀ {σ6 : L2.St} {H6 : Hp} {Q : Shared → Prop}, L2.Inv (X.suite a ((a, oe) :: (X.pn ++ pins))) [] σ6 H6 s6 → (∀ s7, L2.Inv X pins (σ6.set i none) H6 s7 → Q s7) → wpAny (model X.prog X.w) X.A (do bindName X.env n .none; unbindBehindTheSuite X.env n pos') (fun _ s7 => Q s7) X.xe s6 := fun {σ6 H6 Q} S6 hq => gone_ok (S6.unsuite okX) hN hi hln hq
  rcases f with _ | _ | _ | u
  all_goals first
    | (obtain ⟨v6, σ6, H6, S6, r6, q6⟩ := hsp; exact fin S6 fun s7 J7 => ⟨_, _, _, J7, r6, q6⟩)
    | (obtain ⟨σ6, H6, S6, q6⟩ := hsp; exact fin S6 fun s7 J7 => ⟨_, _, J7, q6⟩)
end
section
variable {X : Cx} {x x2 n : Str} {c c2 : Value} {i : Nat} {body suite suite2 : List Stmt} {b₀ b2 : Stmt} {np np2 pos pos' pos2 : Pos} {tb : WX → TS} {ts ts2 : Addr → Value → Option Addr → TS}
/-- what goes to the first clause, or past it to the second -/
def wTwo (K : PySem.W.Frag) (c c2 : Value) (i : Nat) (ts ts2 : Addr → Value → Option Addr → TS) (D : Ends) : WX := fun cls d σ H => (PySem.W.exmOne K cls c = some true ∧ wCl i ts D cls d σ H) ∨ (PySem.W.exmOne K cls c = some false ∧ PySem.W.exmOne K cls c2 = some true ∧ wCl i ts2 D cls d σ H)
theorem ps_try_two (hst : X.stack = X.env :: X.outer) (hf : X.env.frame = some X.env.locals) (hN : X.N.Nodup) (hi : X.N[i]? = some n) (hln : X.env.kindOf n = some .local) (hc : Names X x c) (hc2 : Names X x2 c2)
    (hb : ∀ (W : WX) (pn : List (Addr × Obj)) (xe : Value → Shared → Prop), L2N.Takes (X.tr pn xe) W → PassesOwn (model X.prog X.w) X.A X.env xe → PSs (X.tr pn xe) body (tb W))
    (hsu : ∀ (a : Addr) (oe : Obj) (cls : Value) (d : Option Addr) (pn : List (Addr × Obj)), L2N.Zn cls d oe → (∃ vs, oe.data = .fields vs) → PSs (X.suite a ((a, oe) :: pn)) (b₀ :: suite) (ts a cls d))
    (hsu2 : ∀ (a : Addr) (oe : Obj) (cls : Value) (d : Option Addr) (pn : List (Addr × Obj)), L2N.Zn cls d oe → (∃ vs, oe.data = .fields vs) → PSs (X.suite a ((a, oe) :: pn)) (b2 :: suite2) (ts2 a cls d)) :
    PS X (.Try body [.ExceptHandler (some (.Name x np)) (some n) (b₀ :: suite) pos', .ExceptHandler (some (.Name x2 np2)) (some n) (b2 :: suite2) pos2] [] [] pos) (fun D σ H => tb (wTwo X.K c c2 i ts ts2 D) D σ H) := by
  refine ⟨fun pins s σ H D I h0 => ?_⟩
  have okX := I.ok
  have hfr : X.A.frames = some (X.env :: X.outer) := by rw [okX.frames, hst]
  refine wpAny_Try_except (wpAny_mono ((hb (wTwo X.K c c2 i ts ts2 D) (X.pn ++ pins) (fun e s₁ => wpAny (model X.prog X.w) X.A (noteFrame e X.env) (fun _ s₂ => wpAny (model X.prog X.w) X.A (setFlight e none) (fun _ s₃ => wpAny (model X.prog X.w) X.A (handleBy e X.env [.ExceptHandler (some (.Name x np)) (some n) (b₀ :: suite) pos', .ExceptHandler (some (.Name x2 np2)) (some n) (b2 :: suite2) pos2]) (SP X pins D) X.xe s₃) X.xe s₂) X.xe s₁) (fun u s' xx => ?_) PassesOwn.looking).run [] s σ H D (I.toTry _) h0) (fun f s1 hsp => ?_) (fun e s1 he => he))
  · obtain ⟨a, B, sI, pins', σ', H', cls, d, rfl, J', nb, up, sky, na, os, ag, w⟩ := xx
    have J : L2.Inv X pins σ' H' sI := J'.ofTry okX
    have sky' : Sky B (X.env :: X.outer) a (L2N.Zn cls d) X.env.locals s'.heap := hst ▸ sky
    show wpAny (model X.prog X.w) X.A (noteFrame (.ref a) X.env) _ _ _
    refine L2N.Sky.land L2N.Zn.steady hfr hf sky' fun h3 fl3 up3 => ?_
    have L : Ld X pins a B σ' H' sI { s' with heap := h3 } cls d := ⟨J, nb, up.trans up3, fl3, na, os, ag⟩
    rcases w with ⟨hk, hw⟩ | ⟨hk, hk2, hw⟩
    · exact L.take hf hN hi hln hc hk hsu hw
    · exact L.pass hf hc hk (L.take hf hN hi hln hc2 hk2 hsu2 hw)
  · rcases f with _ | _ | _ | u
    all_goals first
      | (obtain ⟨v, σ', H', J', r, q⟩ := hsp; exact ⟨v, σ', H', J'.ofTry okX, r, q⟩)
      | (obtain ⟨σ', H', J', q⟩ := hsp; exact wpAny_execs_nil ⟨σ', H', J'.ofTry okX, q⟩)
      | (obtain ⟨σ', H', J', q⟩ := hsp; exact ⟨σ', H', J'.ofTry okX, q⟩)
end
end Wr

set_option Elab.async false
set_option linter.all false
set_option maxRecDepth 100000
set_option maxHeartbeats 4000000
namespace Wr
open PySem PySem.Spec PyProof.Rows L2 HotX L2H
/-- as tCallE, of whatever object stands there -/
def tCallA (sp : Addr × Obj → Sp) (a : Addr) (cls : Value) (d : Option Addr) (t : TA) : TE := fun σ H Q => t σ H fun vs H1 => ∀ oe, L2N.Zn cls d oe → (∃ vs, oe.data = .fields vs) → sp (a, oe) vs H1 Q fun _ _ _ => False
section
variable {X : Cx} {k : Nat} {f a : Addr} {fd : FuncData} {ps : List Str} {sp : Addr × Obj → Sp} {x : Str} {q pos : Pos} {e : Expr} {es : List Expr} {t : TA} {oe : Obj} {cls : Value} {d : Option Addr} {pn : List (Addr × Obj)}
theorem pe_callA (hz : L2N.Zn cls d oe) (hf : ∃ vs, oe.data = .fields vs) (F : FnE X.prog X.w X.K X.mg X.base k f fd ps sp) (hr : RoomH k (X.A.mark (some (.ref a)))) (hg : Gl X x) (hm : X.mg x = some (.ref f)) (hk : PySem.W.keepIn X.K (.ref f) = true) (hb : Binds X.K fd ps []) (ha : PA (X.suite a ((a, oe) :: pn)) (e :: es) t)
    (hdb : (x == ("__debug__" : Str)) = false := by decide) (he : starEach (e :: es) X.env = (false, eval e X.env) :: starEach es X.env := by rfl) (hpl : (backTo pos (starEach es X.env)).any (·.1) = false := by rfl) : PE (X.suite a ((a, oe) :: pn)) (.Call (.Name x q) (e :: es) [] pos) (tCallA sp a cls d t) := by
  refine ⟨fun pins s σ H Q I h => wpAny_Call_Name_kw (ld_glob I hg hm (PySem.W.callWith_K (h₀ := X.base) I.ok.mod.kin hk (thn (ha.run pos pins s σ H _ I h) fun us s1 ⟨vs, H1, I1, r, q0⟩ => ⟨I1.kIn, ?_⟩) he hpl) hdb)⟩
  have q1 := q0 oe hz hf
  have hl : us.length = ps.length := by rw [← r.length]; exact F.len _ _ _ _ _ q1
  have b := hb s1 us I1.kIn (by rw [List.append_nil]; exact hl)
  rw [List.append_nil] at b
  have at1 := I1.pin (a, oe) (List.mem_append_left _ List.mem_cons_self)
  have nf : a ∉ frs X.stack := fun hm => (List.mem_cons.mp (I1.stkSub a hm)).elim at1.2.2.1 at1.2.2.2.1
  obtain ⟨fv, hv⟩ := hf
  refine wpAny_call (codeAny_mono (F.run (a, oe) (X.A.mark (some (.ref a))) X.stack s1 H1 ⟨us, []⟩ us vs Q _ hr ⟨rfl, fv, hv, hz.2.2 fv hv⟩ ⟨at1.1, at1.2.1, nf, at1.2.2.2.2⟩ I1.env0 b r q1) fun r s' hq => ?_)
  rcases r with e | fl
  · exact hq.elim
  · rcases fl with _ | _ | _ | u
    all_goals first
      | exact I1.after hq
      | exact False.elim hq
end
end Wr

set_option Elab.async false
set_option linter.all false
set_option maxRecDepth 100000
set_option maxHeartbeats 4000000
namespace Wr
open PySem PySem.Spec PyProof.Rows L2 Evl L2H
/-! ### told -/
abbrev s_to : Stmt := topS 50
abbrev NTo : List Str := ["_law_program", "_law_part", "_law_row", "_law_number", "_law_e", "_law_found"]
abbrev PTo : List Str := ["_law_program", "_law_part", "_law_row"]
theorem sc_to : FnScope NTo PTo (defScope s_to) := ⟨rfl, rfl, rfl, by decide +kernel, rfl, by decide +kernel, by decide +kernel⟩
def numD (ps : List PartV) (part : PyData) : PyData := match posV ps part with
  | some i => .int (i : Nat)
  | none => .list [.str "NoPart", part]
def fouD (ps : List PartV) (part d : PyData) : PyData := match posV ps part with
  | some i => match ps[i]? with
    | some p => if indexD d (p.rs.length : Nat) = true then p.rs.getD (intOf d).toNat .none else .list [.str "NoRow", d]
    | none => .none
  | none => .list [.str "NoPart", part]
def spTo (K : PySem.W.Frag) : Sp := fun vs H Q _ => ∃ (b : List Addr) (v v2 v3 : V) (ds : List PyData) (ps : List PartV) (part d : PyData), vs = [v, v2, v3] ∧ PgIn K b H v ds ps ∧ Dq K b H v2 part ∧ okD 30 part = true ∧ Dq K b H v3 d ∧ okD 30 d = true ∧
  ∀ u H', Ex H H' → Dq K b H' u (.list [numD ps part, fouD ps part d]) → Q u H'
section
variable {P : Program} {w : World} {K : PySem.W.Frag} {mg : Str → Option Value} {base : Heap} {C C2 fI fI2 f g g2 g3 : Addr} {cs : List Addr} {bs bs2 : List Bool} {fd gd gd2 gd3 fdI fdI2 : FuncData}
/-- [kind, field], as a datum -/
theorem two_dq {b : List Addr} {H1 : Hp} {p : Addr} {x : Str} {y : V} {dy : PyData} (kn : Kn b H1) (hp : H1 p = none) (hy : Dq K b H1 y dy) : Dq K b (upd H1 p (.lst [.str x, y])) (.ref p) (.list [.str x, dy]) := .lst (.inl (.inl (by rw [hid_ne (kn.new hp)]; exact upd_same))) (.cons (.str _) (.cons (Dq.up hy (Ex.new hp)) .nil))
/-- the suite: name = [kind(e), e.field] -/
theorem suite_ke {b : List Addr} {Hf : Hp} {dx a C0 : Addr} {j : Nat} {fld nm : Str} {i : Nat} {y : V} {dy : PyData} {bs0 : List Bool} {D : Ends} {σ : L2.St} (kn : Kn b Hf) (hfx : Hf dx = some (.xd [(fld, y)])) (hy : Dq K b Hf y dy) (KC : KiC K C0 cs i bs0) (hnm : kindN.getD i "" = nm) (IT : IsxC K C0) (hd : PySem.W.hasDictIn K C0 = true) (h4 : σ[4]? = some (some (.ref a)))
    (q : ∀ u H', Ex Hf H' → Dq K b H' u (.list [.str nm, dy]) → D.nx (σ.set j (some u)) H') : tAsg (tLst (tCons (tCallA (spKi K cs) a (.ref C0) (some dx) (tCons (tVar 4) tNil)) (tCons (tXf a (.ref C0) (some dx) C0 fld (tVar 4)) tNil))) (gName j) D σ Hf := by
  refine ⟨.ref a, h4, fun oe hz hf => ⟨C0, i, bs0, rfl, ⟨hz.1, hf, .inl ⟨dx, _, hz.2.1, hfx⟩⟩, KC, IT, hd, fun H2 x2 => ?_⟩⟩
  refine ⟨.ref a, h4, rfl, rfl, dx, _, y, rfl, x2 _ _ hfx, by simp [List.lookup], ?_⟩
  refine ⟨by show 2 ≤ sizeLine; rw [sizeLine_eq]; decide, fun p hp => ?_⟩
  rw [hnm]
  exact q (.ref p) _ (x2.trans (Ex.new hp)) (two_dq (kn.up x2) hp (Dq.up hy x2))
section
variable {b : List Addr} {v v2 v3 : V} {ds : List PyData} {ps : List PartV} {part d : PyData} {H : Hp} {T2 : TS} {D : Ends}
theorem told_first (PI : PgIn K b H v ds ps) (h2 : Dq K b H v2 part) (hok : okD 30 part = true) (KC : KiC K C cs 1 bs) (IT : IsxC K C) (hd : PySem.W.hasDictIn K C = true) (te : PySem.W.exmOne K (.ref C) (.ref C) = some true)
    (h : ∀ vn H1, Ex H H1 → Dq K b H1 vn (numD ps part) → T2 D [some v, some v2, some v3, some vn, none, none] H1) :
    tSeq (fun D σ H => tAsg (tCallS (spPn K C) (WE (wAs K (.ref C) 4 (fun a cls d => tAsg (tLst (tCons (tCallA (spKi K cs) a cls d (tCons (tVar 4) tNil)) (tCons (tXf a cls d C "name" (tVar 4)) tNil))) (gName 3)) (fun _ _ _ _ => False) D)) (tCons (tVar 0) (tCons (tVar 1) tNil))) (gName 3) D σ H) T2 D [some v, some v2, some v3, none, none, none] H := by
  refine ⟨v, rfl, v2, rfl, b, v, v2, ds, ps, part, rfl, PI, h2, hok, fun i hi H1 x1 => ?_, fun hn dx y Hf hdx xf hfx hy => ⟨true, te, fun _ a ha => ?_, fun z => nomatch z⟩⟩
  · refine h _ H1 x1 ?_
    unfold numD
    rw [hi]
    exact .int _
  · refine suite_ke (i := 1) (PI.kn.up xf) hfx hy KC rfl IT hd rfl fun u H' x' hu => ?_
    refine h u H' (xf.trans x') ?_
    unfold numD
    rw [hn]
    exact hu
theorem told_second (PI : PgIn K b H v ds ps) (h2 : Dq K b H v2 part) (hok : okD 30 part = true) (h3 : Dq K b H v3 d) (hok3 : okD 30 d = true) {vn : V} (KC : KiC K C cs 1 bs) (KC2 : KiC K C2 cs 2 bs2) (IT : IsxC K C) (IT2 : IsxC K C2) (hd : PySem.W.hasDictIn K C = true) (hd2 : PySem.W.hasDictIn K C2 = true) (te : PySem.W.exmOne K (.ref C) (.ref C) = some true) (te0 : PySem.W.exmOne K (.ref C2) (.ref C) = some false) (te2 : PySem.W.exmOne K (.ref C2) (.ref C2) = some true)
    (h : ∀ vf H1, Ex H H1 → Dq K b H1 vf (fouD ps part d) → T2 D [some v, some v2, some v3, some vn, none, some vf] H1) :
    tSeq (fun D σ H => tAsg (tCallS (spRa K C C2) (WE (wTwo K (.ref C) (.ref C2) 4 (fun a cls d => tAsg (tLst (tCons (tCallA (spKi K cs) a cls d (tCons (tVar 4) tNil)) (tCons (tXf a cls d C "name" (tVar 4)) tNil))) (gName 5)) (fun a cls d => tAsg (tLst (tCons (tCallA (spKi K cs) a cls d (tCons (tVar 4) tNil)) (tCons (tXf a cls d C2 "row" (tVar 4)) tNil))) (gName 5)) D)) (tCons (tVar 0) (tCons (tVar 1) (tCons (tVar 2) tNil)))) (gName 5) D σ H) T2 D [some v, some v2, some v3, some vn, none, none] H := by
  refine ⟨v, rfl, v2, rfl, v3, rfl, b, v, v2, v3, ds, ps, part, d, rfl, PI, h2, hok, h3, hok3, fun hn dx y Hf hdx xf hfx hy => .inl ⟨te, fun a ha => ?_⟩, fun i p hi hp => ⟨fun hx dx y Hf hdx xf hfx hy => .inr ⟨te0, te2, fun a ha => ?_⟩, fun j r ej hr u H1 x1 hu => ?_⟩⟩
  · refine suite_ke (i := 1) (PI.kn.up xf) hfx hy KC rfl IT hd rfl fun u H' x' hu => h u H' (xf.trans x') ?_
    unfold fouD
    rw [hn]
    exact hu
  · refine suite_ke (i := 2) (PI.kn.up xf) hfx hy KC2 rfl IT2 hd2 rfl fun u H' x' hu => h u H' (xf.trans x') ?_
    unfold fouD
    rw [hi]
    show Dq K b H' u (match ps[i]? with
      | some p => if indexD d (p.rs.length : Nat) = true then p.rs.getD (intOf d).toNat .none else .list [.str "NoRow", d]
      | none => .none)
    rw [hp]
    show Dq K b H' u (if indexD d (p.rs.length : Nat) = true then _ else _)
    rw [hx, if_neg Bool.false_ne_true]
    exact hu
  · refine h u H1 x1 ?_
    unfold fouD
    rw [hi]
    show Dq K b H1 u (match ps[i]? with
      | some p => if indexD d (p.rs.length : Nat) = true then p.rs.getD (intOf d).toNat .none else .list [.str "NoRow", d]
      | none => .none)
    rw [hp]
    show Dq K b H1 u (if indexD d (p.rs.length : Nat) = true then _ else _)
    have hj : j < p.rs.length := (List.getElem?_eq_some_iff.mp hr).1
    have hx : indexD d (p.rs.length : Nat) = true := by
      rw [ej]
      show (decide ((0 : Int) ≤ (j : Nat)) && decide (((j : Nat) : Int) < (p.rs.length : Nat))) = true
      rw [decide_eq_true (by omega), decide_eq_true (by omega)]
      rfl
    have hg : p.rs.getD (intOf d).toNat .none = r := by
      rw [ej]
      show p.rs.getD ((j : Nat) : Int).toNat .none = r
      rw [Int.toNat_natCast, List.getD_eq_getElem?_getD, hr]
      rfl
    rw [hx, if_pos rfl, hg]
    exact hu
end
theorem ok_to (D : Def K mg "_law_told" s_to PTo f fd) (D1 : Def K mg "part_number" s_pn ["program", "part"] g gd) (G1 : FnOk P w K mg base (L2N.CX P w) 7 g gd ["program", "part"] (spPn K C)) (D2 : Def K mg "row_at" s_ra ["program", "part", "row"] g2 gd2) (G2 : FnOk P w K mg base (L2N.CX P w) 7 g2 gd2 ["program", "part", "row"] (spRa K C C2))
    (D3 : Def K mg "_law_kind" s_ki ["_law_e"] g3 gd3) (G3 : FnE P w K mg base 1 g3 gd3 ["_law_e"] (spKi K cs)) (T : NpC K mg C fI fdI) (T2 : NrC K mg C2 fI2 fdI2) (X1 : XfC K C) (X2 : XfC K C2) (KC : KiC K C cs 1 bs) (KC2 : KiC K C2 cs 2 bs2) (IT : IsxC K C) (IT2 : IsxC K C2) (te : PySem.W.exmOne K (.ref C) (.ref C) = some true) (te0 : PySem.W.exmOne K (.ref C2) (.ref C) = some false) (te2 : PySem.W.exmOne K (.ref C2) (.ref C2) = some true) : FnOk P w K mg base CX0 8 f fd PTo (spTo K) := by
  refine D.F.ok sc_to (fun vs H Q E ⟨_, _, _, _, _, _, _, _, e, _⟩ => by rw [e]; rfl) (fun cdv A outer s H vs Q E hr h => ?_)
  obtain ⟨b, v, v2, v3, ds, ps, part, d, rfl, PI, h2, hok, h3, hok3, q⟩ := h
  have rh : ∀ hd : Option Value, RoomH 1 ((A.deeper (envOfC "_law_told" (defScope s_to) s.heap.objs.size f cdv)).mark hd) := fun hd => ⟨(hr.mono (by decide : 1 ≤ 7)).dp, (hr.mono (by decide : 1 ≤ 7)).un⟩
  refine ⟨_, pss_cons (L2N.ps_try_as (Wout := fun _ _ _ _ => False) (i := 4) rfl rfl sc_to.nd rfl rfl ⟨rfl, by decide, .inl T.m⟩ (fun _ _ x => by obtain ⟨_, _, _, _, _, _, _, _, _, _, _, _, _, _, _, _, z⟩ := x; exact z.elim)
      (fun W pn xe tkk _ => pss_one (ps_set (i := 3) sc_to.nd rfl (Or.inl rfl) (pe_callS (E := WE W) G1 hr rfl D1.m D1.F.kp D1.b (fun σ => L2N.passAt tkk σ) (pa_cons (pv 0) (pa_cons (pv 1) pa_nil)))))
      (fun a oe cls d pn hz hf => pss_one (ps_set (i := 3) sc_to.nd rfl (Or.inl rfl) (pe_lst (pa_cons (pe_callA hz hf G3 (rh _) rfl D3.m D3.F.kp D3.b (pa_cons (pv 4) pa_nil)) (pa_cons (pe_xf X1 T.n hz.zc hf (pv 4)) pa_nil))))))
    (pss_cons (ps_try_two (i := 4) rfl rfl sc_to.nd rfl rfl ⟨rfl, by decide, .inl T.m⟩ ⟨rfl, by decide, .inl T2.m⟩
      (fun W pn xe tkk _ => pss_one (ps_set (i := 5) sc_to.nd rfl (Or.inl rfl) (pe_callS (E := WE W) G2 hr rfl D2.m D2.F.kp D2.b (fun σ => L2N.passAt tkk σ) (pa_cons (pv 0) (pa_cons (pv 1) (pa_cons (pv 2) pa_nil))))))
      (fun a oe cls d pn hz hf => pss_one (ps_set (i := 5) sc_to.nd rfl (Or.inl rfl) (pe_lst (pa_cons (pe_callA hz hf G3 (rh _) rfl D3.m D3.F.kp D3.b (pa_cons (pv 4) pa_nil)) (pa_cons (pe_xf X1 T.n hz.zc hf (pv 4)) pa_nil)))))
      (fun a oe cls d pn hz hf => pss_one (ps_set (i := 5) sc_to.nd rfl (Or.inl rfl) (pe_lst (pa_cons (pe_callA hz hf G3 (rh _) rfl D3.m D3.F.kp D3.b (pa_cons (pv 4) pa_nil)) (pa_cons (pe_xf X2 T2.n hz.zc hf (pv 4)) pa_nil))))))
    (pss_one (ps_ret (pe_lst (pa_cons (pv 3) (pa_cons (pv 5) pa_nil)))))), ?_⟩
  have hsl : sizeLine = 16777216 := sizeLine_eq
  refine told_first (K := K) (b := b) PI h2 hok KC IT X1.hdC te fun vn H1 x1 hn => ?_
  refine told_second (K := K) (b := b) (PI.up x1) (Dq.up h2 x1) hok (Dq.up h3 x1) hok3 KC KC2 IT IT2 X1.hdC X2.hdC te te0 te2 fun vf H2 x2 hf => ?_
  exact (ed_lst (K := K) (b := b) (ds := [numD ps part, fouD ps part d]) (PI.kn.up (x1.trans x2)) (ea_cons (ed_var (i := 3) rfl (Dq.up hn x2)) (ea_cons (ed_var (i := 5) rfl hf) ea_nil)) (by show 2 ≤ sizeLine; omega)) H2 (Ex.refl H2) _ fun u H3 x3 hu => q u H3 ((x1.trans x2).trans x3) hu
end
end Wr

set_option Elab.async false
set_option linter.all false
set_option maxRecDepth 100000
set_option maxHeartbeats 4000000
namespace Wr
open PySem PySem.Spec PyProof.Rows L2 Evl
/-! ### odd, alike, due -/
abbrev s_od : Stmt := topS 49
abbrev NOd : List Str := ["_law_bag_here", "_law_some"]
theorem sc_od : FnScope NOd ["_law_bag_here"] (defScope s_od) := ⟨rfl, rfl, rfl, by decide +kernel, rfl, by decide +kernel, by decide +kernel⟩
abbrev s_al : Stmt := topS 51
abbrev NAl : List Str := ["_law_one", "_law_other"]
theorem sc_al : FnScope NAl NAl (defScope s_al) := ⟨rfl, rfl, rfl, by decide +kernel, rfl, by decide +kernel, by decide +kernel⟩
abbrev s_du : Stmt := topS 52
abbrev NDu : List Str := ["_law_program", "_law_part", "_law_row", "_law_called", "_law_number", "_law_rows", "_law_one"]
theorem sc_du : FnScope NDu PTo (defScope s_du) := ⟨rfl, rfl, rfl, by decide +kernel, rfl, by decide +kernel, by decide +kernel⟩
/-- what a part, a row may be: shallow, and not long when shown -/
def ThP (d : PyData) : Prop := okD 25 d = true ∧ szD d ≤ 100000
def oddL : List PyData := [.none, .bool true, .bool false, .int (-1), .int 60, .int 1000000000000000000000000000000000000000, .str "", .str "none", .str "Main", .str "abcdefghi", .list [], .tuple [], .tuple [.int 0], .list [.str "a"], .tuple [.str "back"], .list [.list [.int 0]]]
theorem odd_all {z : PyData} (h : z ∈ oddL) : ThP z := by
  have q : (oddL.all fun z => okD 25 z && decide (szD z ≤ 100000)) = true := by decide +kernel
  have := List.all_eq_true.mp q z h
  rw [Bool.and_eq_true] at this
  exact ⟨this.1, of_decide_eq_true this.2⟩
section
variable {K : PySem.W.Frag} {b : List Addr} {a : Addr} {n m k : Nat} {σ : L2.St} {H H' : Hp} {ta tb te t1 t2 t3 : TE} {t : TA} {P : PyData → Prop} {d part : PyData} {ds : List PyData} {E : XK}
theorem eg_ixT {P1 P2 : PyData → Prop} (ha : a ∈ b) (h1 : EG K b a n k ta σ H P1) (h2 : EG K b a k m tb σ H P2) (hi : ∀ d e, P1 d → P2 e → ∃ ds i z, d = .tuple ds ∧ e = .int i ∧ atI ds i = some z ∧ P z) : EG K b a n m (tOp (rIxT K) ta tb) σ H P :=
  eg_op ha h1 h2 fun d e H1 x y Q p1 p2 _ _ hx hy q => by
    obtain ⟨ds, i, z, rfl, rfl, hz, p⟩ := hi d e p1 p2
    cases hx with
    | tup g1 _ g2 =>
      obtain ⟨v, q1, q2⟩ := dps_atI g2 hz
      exact ⟨_, _, i, v, rfl, dq_int hy, ex_t hid_le g1, q1, q v z H1 (Ex.refl H1) q2 p⟩
theorem ed_indexD {j : Nat} {z : PyData} (ha : ED K b ta σ H (.list ds)) (hb : ED K b tb σ H d) (sl : SeqAt.shaped (.list ds) = true) (sd : SeqAt.shaped d = true) (h1 : ds[j]? = some z) (h2 : PyData.eqv z d = true) (h3 : ∀ (m : Nat) (z' : PyData), m < j → ds[m]? = some z' → PyData.eqv z' d = false) :
    ED K b (tBM K "list" (rIndexD K) ta (tCons tb tNil)) σ H (.int (j : Nat)) := fun H1 x1 Q q =>
  ha H1 x1 _ fun x H2 x2 hx => by
    have hx' := hx
    cases hx' with
    | lst g1 _ =>
      exact ⟨.inl ⟨rfl, _, ex_l hid_le g1⟩, hb H2 (x1.trans x2) _ fun y H3 x3 hy => ⟨_, y, d, ds, j, z, rfl, rfl, (Dq.up hx x3).dp, hy.dp, sl, sd, h1, h2, h3, q _ H3 (x2.trans x3) (.int _)⟩⟩
theorem ed_repr (ha : ED K b ta σ H d) (ho : okD 30 d = true) (hz : szD d ≤ 16000000) : ED K b (tCB (rRepr K) (tCons ta tNil)) σ H (.str d.shown) := fun H1 x1 Q q =>
  ha H1 x1 _ fun v H2 x2 hv => ⟨v, d, rfl, Dq.dp hv, ho, hz, q _ H2 x2 (.str _)⟩
theorem ed_eqS {x y : Str} (ha : ED K b ta σ H (.str x)) (hb : ED K b tb σ H (.str y)) : ED K b (tOp rEq ta tb) σ H (.bool (decide (x = y))) :=
  ed_op ha hb fun H1 v u Q _ hx hy q => by
    have e1 := dq_str hx
    have e2 := dq_str hy
    subst e1 e2
    have e : decide (V.str x = V.str y) = decide (x = y) := by
      by_cases h : x = y
      · rw [decide_eq_true h, h, decide_eq_true rfl]
      · rw [decide_eq_false h, decide_eq_false fun z => h (by injection z)]
    refine ⟨rfl, ?_⟩
    rw [e]
    exact q _ H1 (Ex.refl H1) (.bl _)
end
theorem pos_none {ps : List PartV} {d : PyData} (h : inD d ((ps.map PartV.x).map .str) = false) : posV ps d = none := by
  unfold posV
  rw [List.findIdx?_eq_none_iff]
  intro p hp
  cases z : PyData.eqv (.str p.x) d with
  | false => rfl
  | true =>
    have : inD d ((ps.map PartV.x).map .str) = true := List.any_eq_true.mpr ⟨.str p.x, List.mem_map.mpr ⟨p.x, List.mem_map.mpr ⟨p, hp, rfl⟩, rfl⟩, z⟩
    rw [this] at h
    cases h
theorem pos_some {ps : List PartV} {d : PyData} {i : Nat} (h : posV ps d = some i) : ∃ p x, ps[i]? = some p ∧ d = .str x ∧ PyData.eqv (.str p.x) d = true ∧ inD d ((ps.map PartV.x).map .str) = true ∧ ∀ (m : Nat) (z' : PyData), m < i → ((ps.map PartV.x).map PyData.str)[m]? = some z' → PyData.eqv z' d = false := by
  obtain ⟨h1, h2, h3⟩ := List.findIdx?_eq_some_iff_getElem.mp h
  obtain ⟨x, rfl⟩ : ∃ x, d = .str x := by
    cases d with
    | str x => exact ⟨x, rfl⟩
    | _ => simp [PyData.eqv] at h2
  refine ⟨ps[i], x, List.getElem?_eq_getElem h1, rfl, h2, List.any_eq_true.mpr ⟨.str ps[i].x, List.mem_map.mpr ⟨_, List.mem_map.mpr ⟨_, List.getElem_mem h1, rfl⟩, rfl⟩, h2⟩, fun m z' hm hz => ?_⟩
  rw [List.getElem?_map, List.getElem?_map, List.getElem?_eq_getElem (Nat.lt_trans hm h1)] at hz
  have e := (Option.some.inj hz).symm
  subst e
  have := h3 m hm
  exact Bool.eq_false_iff.mpr this
theorem fst_x {ds : List PyData} {ps : List PartV} (h : PrgV ds ps) : ds.map fst = (ps.map PartV.x).map .str := by
  rw [h.e, List.map_map, List.map_map]
  rfl
theorem fou_none {ps : List PartV} {part d : PyData} (h : posV ps part = none) : fouD ps part d = .list [.str "NoPart", part] := by
  unfold fouD
  rw [h]
theorem fou_some {ps : List PartV} {part d : PyData} {i : Nat} {p : PartV} (h : posV ps part = some i) (hp : ps[i]? = some p) : fouD ps part d = if indexD d (p.rs.length : Nat) = true then p.rs.getD (intOf d).toNat .none else .list [.str "NoRow", d] := by
  unfold fouD
  rw [h]
  show (match ps[i]? with
    | some p => if indexD d (p.rs.length : Nat) = true then p.rs.getD (intOf d).toNat .none else .list [.str "NoRow", d]
    | none => .none) = _
  rw [hp]
theorem num_none {ps : List PartV} {part : PyData} (h : posV ps part = none) : numD ps part = .list [.str "NoPart", part] := by
  unfold numD
  rw [h]
theorem num_some {ps : List PartV} {part : PyData} {i : Nat} (h : posV ps part = some i) : numD ps part = .int (i : Nat) := by
  unfold numD
  rw [h]
theorem szAll_mem {d : PyData} : ∀ {ds : List PyData}, d ∈ ds → szD d ≤ szAll ds
  | [], h => nomatch h
  | x :: r, h => by
    simp only [szAll]
    rcases List.mem_cons.mp h with rfl | h
    · omega
    · have := szAll_mem h
      omega
def spDu (K : PySem.W.Frag) : Sp := fun vs H Q _ => spTo K vs H Q fun _ _ _ => False
def spAl (K : PySem.W.Frag) : Sp := fun vs H Q _ => ∃ (b : List Addr) (v v2 : V) (d : PyData), vs = [v, v2] ∧ Dq K b H v d ∧ Dq K b H v2 d ∧ okD 30 d = true ∧ szD d ≤ 16000000 ∧ ∀ H', Ex H H' → Q (.bl true) H'
section
variable {P : Program} {w : World} {K : PySem.W.Frag} {mg : Str → Option Value} {base : Heap} {f g1 g9 : Addr} {fd gd1 gd9 : FuncData}
theorem ok_od (D : Def K mg "_law_odd" s_od ["_law_bag_here"] f fd) (D9 : Def K mg "_law_take" s_take ["_law_bag_here", "_law_many"] g9 gd9) : FnOk P w K mg base CX0 2 f fd ["_law_bag_here"] (spG K 1 (· = []) fun _ d => d ∈ oddL) := by
  refine D.F.ok sc_od (fun vs H Q E h => spG_len (fun ds e => by rw [e]; rfl) h) (fun cdv A outer s H vs Q E hr h => ?_)
  obtain ⟨b, a, k, ws, ds, rfl, hab, kn, bg, hd, rfl, q⟩ := h
  cases hd
  have r1 : Room 1 _ := hr.mono (by decide)
  have G9 := ok_take (P := P) (w := w) (base := base) D9
  refine ⟨_, pss_cons (ps_set (i := 1) sc_od.nd rfl (Or.inl rfl) (pe_lst (pa_cons pe_non (pa_cons pe_bl (pa_cons pe_bl (pa_cons (pe_un un_neg pe_int) (pa_cons pe_int (pa_cons (pe_op op_powW pe_int pe_int) (pa_cons pe_str (pa_cons pe_str (pa_cons pe_str (pa_cons pe_str (pa_cons (pe_lst pa_nil) (pa_cons (pe_tupF pa_nil) (pa_cons (pe_tupF (pa_cons pe_int pa_nil)) (pa_cons (pe_lst (pa_cons pe_str pa_nil)) (pa_cons (pe_tupF (pa_cons pe_str pa_nil)) (pa_cons (pe_lst (pa_cons (pe_lst (pa_cons pe_int pa_nil)) pa_nil)) pa_nil))))))))))))))))))
    (pss_one (ps_ret (pe_ix ix_list (pv 1) (pe_cd D9 G9 r1 (pa_cons (pv 0) (pa_cons pe_int pa_nil))) (fun _ _ => rfl)))), ?_⟩
  have hsl : sizeLine = 16777216 := sizeLine_eq
  have pw2 : ∀ {σ'} {H'}, ED K b (tOp (rI CPowW fun i j => .int (i ^ j.toNat)) (tC (.int 10)) (tC (.int 39))) σ' H' (.int 1000000000000000000000000000000000000000) := fun {_ _} => ed_I ed_int ed_int ⟨by decide, by decide, by decide⟩ fun _ => .int _
  refine g_lst (K := K) (b := b) (ds := oddL) kn (ea_cons ed_non (ea_cons ed_bl (ea_cons ed_bl (ea_cons (ed_neg ed_int) (ea_cons ed_int (ea_cons pw2 (ea_cons ed_str (ea_cons ed_str (ea_cons ed_str (ea_cons ed_str (ea_cons (ed_lst kn ea_nil (by decide)) (ea_cons (ed_tup kn ea_nil (by decide)) (ea_cons (ed_tup kn (ea_cons ed_int ea_nil) (by decide)) (ea_cons (ed_lst kn (ea_cons ed_str ea_nil) (by decide)) (ea_cons (ed_tup kn (ea_cons ed_str ea_nil) (by decide)) (ea_cons (ed_lst kn (ea_cons (ed_lst kn (ea_cons ed_int ea_nil) (by decide)) ea_nil) (by decide)) ea_nil)))))))))))))))) (by decide) fun pO vO H1 hpO x1 hO dO => ?_
  have kn1 := kn.up x1
  have b1 := bg.ex x1
  have dodd : Dq K b H1 (.ref pO) (.list oddL) := .lst (.inl (.inl (by rw [hid_ne (kn.new hpO)]; exact hO))) dO
  have eg : EG K b a (k + 1) k (tOp (rIxL K) (tVar 1) (tCall (spTake K) [] E0 (tCons (tVar 0) (tCons (tC (.int 16)) tNil)))) [some (.ref a), some (.ref pO)] H1 (· ∈ oddL) := by
    refine eg_ixL hab (eg_var (P := (· = .list oddL)) (i := 1) rfl hab dodd rfl) (eg_take (n := k) hab rfl (by decide) (by decide)) ?_
    rintro d e rfl hi'
    obtain ⟨j', z, rfl, hz, hm⟩ := intB_at (ds := oddL) hi' (by decide)
    exact ⟨_, j', z, rfl, rfl, hz, hm⟩
  exact eg H1 (ExB.refl a H1) kn1 b1 _ fun v d H2 x2 b2 hv hm => q v d H2 ((exb x1).trans x2) b2 hv hm
theorem ok_al (D : Def K mg "_law_alike" s_al NAl f fd) (B2 : Blt2 mg) : FnG P w K mg base 1 f fd NAl (spAl K) := by
  refine D.okG sc_al (fun vs H Q E ⟨_, _, _, _, e, _⟩ => by rw [e]; rfl) (fun cdv A outer s H vs Q E hg hr h => ?_)
  obtain ⟨b, v, v2, d, rfl, h1, h2, ho, hz, q⟩ := h
  refine ⟨_, pss_one (ps_ret (pe_and (pe_cmpR (op_eqD (hu64 hr)) (pv 0) (pv 1) (nomark _)) (pe_one (pe_cmpR op_eq (pe_callB (call_reprD hg (hu64 hr)) rfl B2.repr bb_repr (pa_cons (pv 0) pa_nil)) (pe_callB (call_reprD hg (hu64 hr)) rfl B2.repr bb_repr (pa_cons (pv 1) pa_nil)) (nomark _))))), ?_⟩
  obtain ⟨c1, _, _⟩ := ok_facts 30 d ho
  have e1 := ed_eq (K := K) (b := b) (ed_var (σ := start NAl [v, v2]) (i := 0) rfl h1) (ed_var (i := 1) rfl h2) (ok_shaped ho) (ok_shaped ho)
  have e2 := ed_eqS (K := K) (b := b) (ed_repr (ed_var (σ := start NAl [v, v2]) (i := 0) rfl h1) ho hz) (ed_repr (ed_var (i := 1) rfl h2) ho hz)
  rw [PySem.SeqAt.eqv_refl d c1] at e1
  rw [decide_eq_true rfl] at e2
  refine (ed_andB e1 fun _ => e2) H (Ex.refl H) _ fun vz H3 x3 hz' => ?_
  rw [dq_bl hz']
  exact q H3 x3
theorem ok_du (D : Def K mg "_law_due" s_du PTo f fd) (B : Blt mg) : FnOk P w K mg base CX0 1 f fd PTo (spDu K) := by
  refine D.F.ok sc_du (fun vs H Q E ⟨_, _, _, _, _, _, _, _, e, _⟩ => by rw [e]; rfl) (fun cdv A outer s H vs Q E hr h => ?_)
  obtain ⟨b, v, v2, v3, ds, ps, part, d, rfl, PI, h2, hok, h3, hok3, q⟩ := h
  refine ⟨_, pss_cons (ps_setLc (i := 3) (own := [("_law_one", 6)]) (g := gName 6) (tt := tYes) rfl sc_du.nd rfl rfl (sw_true rfl rfl rfl (by decide +kernel)) (pi_tup (pv 0)) (blkOk_by (N := NDu) (sc := defScope s_du) (by decide +kernel)) (fun _ _ _ _ _ => pg_name (i := 6) sc_du.nd rfl (Or.inl rfl)) (fun _ _ _ _ _ => pts_nil) (fun _ _ _ _ _ => pe_ix (r := rIxT K) ix_tup (pv 6) pe_int (fun _ _ => rfl)))
    (pss_cons (ps_if (PW.pt (pw_or (pt_not (pt_val (pe_callB call_isi rfl B.isi bb_isinstance (pa_cons (pv 1) (pa_cons (pe_tyN rfl B.str bt_str) pa_nil))))) (pw_or1 (pt_cmpR (op_notInD (hu65 hr)) (pv 1) (pv 3) rfl)))) (pss_one (ps_ret (pe_lst (pa_cons (pe_lst (pa_cons pe_str (pa_cons (pv 1) pa_nil))) (pa_cons (pe_lst (pa_cons pe_str (pa_cons (pv 1) pa_nil))) pa_nil))))) pss_nil)
    (pss_cons (ps_set (i := 4) sc_du.nd rfl (Or.inl rfl) (pe_bm PySem.F.plainAttrs_list PySem.F.slot_list_index PySem.F.type_list_index (mt_indexD (hu65 hr)) (pv 3) (pa_cons (pv 1) pa_nil)))
    (pss_cons (ps_set (i := 5) sc_du.nd rfl (Or.inl rfl) (pe_ix ix_tup (pe_ix ix_tup (pv 0) (pv 4) (fun _ _ => rfl)) pe_int (fun _ _ => rfl)))
    (pss_cons (ps_if (PW.pt (pw_or (pt_val (pe_callB call_isi rfl B.isi bb_isinstance (pa_cons (pv 2) (pa_cons (pe_tyN rfl B.bool bt_bool) pa_nil)))) (pw_or (pt_not (pt_val (pe_callB call_isi rfl B.isi bb_isinstance (pa_cons (pv 2) (pa_cons (pe_tyN rfl B.int bt_int) pa_nil))))) (pw_or1 (pt_not (pt_chain op_le op_lt pe_int (pv 2) (pe_callB call_lenD1 rfl B.len bb_len (pa_cons (pv 5) pa_nil)))))))) (pss_one (ps_ret (pe_lst (pa_cons (pv 4) (pa_cons (pe_lst (pa_cons pe_str (pa_cons (pv 2) pa_nil))) pa_nil))))) pss_nil)
    (pss_one (ps_ret (pe_lst (pa_cons (pv 4) (pa_cons (pe_ix ix_tup (pv 5) (pv 2) (fun _ _ => rfl)) pa_nil))))))))), ?_⟩
  have hsl : sizeLine = 16777216 := sizeLine_eq
  have s1 : ∀ {x y : PyData}, [x, y].length ≤ sizeLine := fun {x y} => by show 2 ≤ sizeLine; omega
  have pV := PI.pv
  have hlen : ds.length = ps.length := by rw [pV.e, List.length_map]
  have lc := ed_lcT1 (K := K) (b := b) (σ := start NDu [v, v2, v3]) (k := 6) (te := tOp (rIxT K) (tVar 6) (tC (.int 0))) (f := fst) PI.kn (ed_var (i := 0) rfl PI.dq) (by have := pV.l8; omega)
    (fun e v' H3 he x3 hv => by
      rw [pV.e] at he
      obtain ⟨p, hp, rfl⟩ := List.mem_map.mp he
      exact ed_ixT (ed_var (i := 6) rfl hv) ed_int (atI_nat (j := 0) rfl))
    (fun e he => by
      rw [pV.e] at he
      obtain ⟨p, hp, rfl⟩ := List.mem_map.mp he
      rfl)
  rw [fst_x pV] at lc
  have xok : (ps.map PartV.x).all PyData.strOk = true := List.all_eq_true.mpr fun y hy => by
    obtain ⟨p, hp, rfl⟩ := List.mem_map.mp hy
    exact pV.xs p hp
  refine g_set lc fun vc H1 x1 hvc => ?_
  show tSeq _ _ _ [some v, some v2, some v3, some vc, none, none, none] H1
  have P1 := PI.up x1
  have h21 := Dq.up h2 x1
  have h31 := Dq.up h3 x1
  have kn1 := P1.kn
  have i1 := et_n (et_b (ed_isi (K := K) (b := b) (T := "str") (.inr (.inr (.inl rfl))) (ed_var (σ := [some v, some v2, some v3, some vc, none, none, none]) (i := 1) rfl h21)))
  have i2 := et_t (ed_ninL (K := K) (b := b) (ed_var (σ := [some v, some v2, some v3, some vc, none, none, none]) (i := 1) rfl h21) (ed_var (i := 3) rfl hvc) (ok_shaped hok) (sh_strs xok).2)
  have tt := et_or i1 fun _ => i2
  refine g_ifE (K := K) tt fun H2 x2 => ?_
  cases hp : posV ps part with
  | none =>
    have c : ((!isD "str" part) || !inD part ((ps.map PartV.x).map .str)) = true := by
      cases hin : inD part ((ps.map PartV.x).map .str) with
      | false => rw [Bool.not_false, Bool.or_true]
      | true =>
        obtain ⟨z, hz, he⟩ := List.any_eq_true.mp hin
        obtain ⟨x, hx, rfl⟩ := List.mem_map.mp hz
        obtain ⟨p, hpm, rfl⟩ := List.mem_map.mp hx
        have := List.findIdx?_eq_none_iff.mp hp p hpm
        rw [he] at this
        cases this
    rw [if_pos c]
    have e0 : ∀ {H'}, Ex H1 H' → ED K b (tLst (tCons (tC (.str "NoPart")) (tCons (tVar 1) tNil))) [some v, some v2, some v3, some vc, none, none, none] H' (.list [.str "NoPart", part]) := fun {H'} x => ed_lst (kn1.up x) (ea_cons ed_str (ea_cons (ed_var (i := 1) rfl (Dq.up h21 x)) ea_nil)) s1
    refine (ed_lst (K := K) (b := b) (ds := [.list [.str "NoPart", part], .list [.str "NoPart", part]]) (kn1.up x2) (ea_cons (e0 x2) (ea_cons (e0 x2) ea_nil)) s1) H2 (Ex.refl H2) _ fun u H3 x3 hu => q u H3 ((x1.trans x2).trans x3) ?_
    rw [num_none hp, fou_none hp]
    exact hu
  | some i =>
    obtain ⟨p, x, hpi, rfl, he, hin, hb⟩ := pos_some hp
    have c : ((!isD "str" (.str x)) || !inD (.str x) ((ps.map PartV.x).map .str)) = false := by
      rw [hin]
      rfl
    rw [if_neg (by rw [c]; exact Bool.false_ne_true)]
    refine gnext ?_
    have x12 := x1.trans x2
    have P2 := PI.up x12
    have h22 := Dq.up h2 x12
    have ix := ed_indexD (K := K) (b := b) (σ := [some v, some v2, some v3, some vc, none, none, none]) (H := H2) (j := i) (z := .str p.x) (ed_var (i := 3) rfl (Dq.up hvc x2)) (ed_var (i := 1) rfl h22) (sh_strs xok).2 (ok_shaped hok) (by rw [List.getElem?_map, List.getElem?_map, hpi]; rfl) he hb
    refine g_set ix fun vn H3 x3 hvn => ?_
    have en := dq_int hvn
    subst en
    show tSeq _ _ _ [some v, some v2, some v3, some vc, some (.int (i : Nat)), none, none] H3
    have P3 := P2.up x3
    have hdi : ds[i]? = some p.d := by rw [pV.e, List.getElem?_map, hpi]; rfl
    have ir : ED K b (tOp (rIxT K) (tOp (rIxT K) (tVar 0) (tVar 4)) (tC (.int 2))) [some v, some v2, some v3, some vc, some (.int (i : Nat)), none, none] H3 (.tuple p.rs) := ed_ixT (ed_ixT (ed_var (i := 0) rfl P3.dq) (ed_var (i := 4) rfl (.int _)) (atI_nat hdi)) ed_int (atI_nat (j := 2) rfl)
    refine g_set ir fun vr H4 x4 hvr => ?_
    show tSeq _ _ _ [some v, some v2, some v3, some vc, some (.int (i : Nat)), some vr, none] H4
    have x14 := x12.trans (x3.trans x4)
    have P4 := P3.up x4
    have h34 := Dq.up h3 x14
    have j1 := et_b (ed_isi (K := K) (b := b) (T := "bool") (.inr (.inl rfl)) (ed_var (σ := [some v, some v2, some v3, some vc, some (.int (i : Nat)), some vr, none]) (i := 2) rfl h34))
    have j2 := et_n (et_b (ed_isi (K := K) (b := b) (T := "int") (.inl rfl) (ed_var (σ := [some v, some v2, some v3, some vc, some (.int (i : Nat)), some vr, none]) (i := 2) rfl h34)))
    have j3 : isD "bool" d = false → (!isD "int" d) = false → EvT (tNot (tTest (tChain (rI0 fun i j => .bl (decide (i ≤ j))) (rI0 fun i j => .bl (decide (i < j))) (tC (.int 0)) (tVar 2) (tCB (rLen K) (tCons (tVar 5) tNil))))) [some v, some v2, some v3, some vc, some (.int (i : Nat)), some vr, none] H4 (!indexD d (p.rs.length : Nat)) := fun n1 n2 => by
      cases d with
      | int z =>
        have ln := ed_len (K := K) (b := b) (ed_var (σ := [some v, some v2, some v3, some vc, some (.int (i : Nat)), some vr, none]) (i := 5) rfl hvr) (.inr (.inr rfl)) fun y e => by cases e
        exact et_n (et_t (ed_chain (g := fun i j => decide (i ≤ j)) (g' := fun i j => decide (i < j)) (ed_int (i := 0)) (ed_var (i := 2) rfl h34) ln))
      | bool z => cases n1
      | _ => cases n2
    have j23 : isD "bool" d = false → EvT _ _ H4 _ := fun n1 => et_or j2 fun n2 => j3 n1 n2
    have jj := et_or j1 j23
    refine g_ifE (K := K) jj fun H5 x5 => ?_
    have x15 := x14.trans x5
    have kn5 := P4.kn.up x5
    have cc : (isD "bool" d || ((!isD "int" d) || !indexD d (p.rs.length : Nat))) = !indexD d (p.rs.length : Nat) := by
      cases d <;> rfl
    rw [cc]
    cases hx : indexD d (p.rs.length : Nat) with
    | false =>
      show (if (!false) = true then _ else _)
      rw [show (!false) = true from rfl, if_pos rfl]
      refine (ed_lst (K := K) (b := b) (ds := [.int (i : Nat), .list [.str "NoRow", d]]) kn5 (ea_cons (ed_var (i := 4) rfl (.int _)) (ea_cons (ed_lst kn5 (ea_cons ed_str (ea_cons (ed_var (i := 2) rfl (Dq.up h34 x5)) ea_nil)) s1) ea_nil)) s1) H5 (Ex.refl H5) _ fun u H6 x6 hu => q u H6 (x15.trans x6) ?_
      rw [num_some hp, fou_some hp hpi, hx, if_neg Bool.false_ne_true]
      exact hu
    | true =>
      show (if (!true) = true then _ else _)
      rw [show (!true) = false from rfl, if_neg Bool.false_ne_true]
      refine gnext ?_
      obtain ⟨j, rfl, hj⟩ := index_int hx
      have hj' : j < p.rs.length := by omega
      have hr' : p.rs[j]? = some p.rs[j] := List.getElem?_eq_getElem hj'
      refine (ed_lst (K := K) (b := b) (ds := [.int (i : Nat), p.rs[j]]) kn5 (ea_cons (ed_var (i := 4) rfl (.int _)) (ea_cons (ed_ixT (ed_var (i := 5) rfl (Dq.up hvr x5)) (ed_var (i := 2) rfl (Dq.up h34 x5)) (atI_nat hr')) ea_nil)) s1) H5 (Ex.refl H5) _ fun u H6 x6 hu => q u H6 (x15.trans x6) ?_
      rw [num_some hp, fou_some hp hpi, hx, if_pos rfl]
      have hg : p.rs.getD (intOf (.int (j : Nat))).toNat .none = p.rs[j] := by
        show p.rs.getD ((j : Nat) : Int).toNat .none = p.rs[j]
        rw [Int.toNat_natCast, List.getD_eq_getElem?_getD, hr']
        rfl
      rw [hg]
      exact hu
end
end Wr

set_option Elab.async false
set_option linter.all false
set_option maxRecDepth 100000
set_option maxHeartbeats 4000000
namespace Wr
open PySem PySem.Spec PyProof.Rows L2 Evl
def spLaw (K : PySem.W.Frag) : Sp := fun vs H Q _ => ∃ (a : Addr) (ns : List Int), vs = [.ref a] ∧ SqL K H a (ns.map V.int) ∧ ns.length ≤ 1000 ∧ ∀ H', Q (.bl true) H'
def rMax2 : List V → Hp → VK → Prop := fun xs H Q => ∃ i j, xs = [.int i, .int j] ∧ Q (.int (if j > i then j else i)) H
def rMin2 : List V → Hp → VK → Prop := fun xs H Q => ∃ i j, xs = [.int i, .int j] ∧ Q (.int (if j < i then j else i)) H
theorem cr_max2 {X : Cx} (hc : X.calm = true) : CallR X (.builtin "max") rMax2 := call_max2 hc
theorem cr_min2 {X : Cx} (hc : X.calm = true) : CallR X (.builtin "min") rMin2 := call_min2 hc
def rNotIs : R2 := fun x y H Q => ∃ a b, x = .bl a ∧ y = .bl b ∧ Q (.bl (!decide (a = b))) H
theorem op_notIs {X : Cx} : OpR X (compareOp .IsNot) rNotIs := op_isnot_bl
theorem hid_nil (H : Hp) : hid [] H = H := by
  funext a
  exact hid_ne (by intro z; cases z)
theorem ints_dps {K : PySem.W.Frag} {H : Hp} : ∀ ns : List Int, DdAll K H (ns.map V.int) (ns.map PyData.int)
  | [] => .nil
  | n :: ns => .cons (.int n) (ints_dps ns)
theorem ex_exb {p : Addr} {H H1 H2 : Hp} (hp : H p = none) (x : Ex H H1) (y : ExB p H1 H2) : Ex H H2 := fun c o h => y c o (fun z => by rw [z, hp] at h; cases h) (x c o h)
section
variable {K : PySem.W.Frag} {b : List Addr} {a : Addr} {n m k : Nat} {σ : L2.St} {H H' : Hp} {ta tb te : TE} {t : TA} {tt tu : TT} {P P' : PyData → Prop} {d : PyData} {ds es : List PyData}
theorem ed_max2 {i j : Int} (ha : ED K b ta σ H (.int i)) (hb : ED K b tb σ H (.int j)) : ED K b (tCB rMax2 (tCons ta (tCons tb tNil))) σ H (.int (if j > i then j else i)) := fun H1 x1 Q q =>
  ha H1 x1 _ fun v H2 x2 hv => hb H2 (x1.trans x2) _ fun u H3 x3 hu => ⟨i, j, by rw [dq_int hv, dq_int hu], q _ H3 (x2.trans x3) (.int _)⟩
theorem ed_min2 {i j : Int} (ha : ED K b ta σ H (.int i)) (hb : ED K b tb σ H (.int j)) : ED K b (tCB rMin2 (tCons ta (tCons tb tNil))) σ H (.int (if j < i then j else i)) := fun H1 x1 Q q =>
  ha H1 x1 _ fun v H2 x2 hv => hb H2 (x1.trans x2) _ fun u H3 x3 hu => ⟨i, j, by rw [dq_int hv, dq_int hu], q _ H3 (x2.trans x3) (.int _)⟩
theorem ed_notIs {i j : Bool} (ha : ED K b ta σ H (.bool i)) (hb : ED K b tb σ H (.bool j)) : ED K b (tOp rNotIs ta tb) σ H (.bool (!decide (i = j))) :=
  ed_op ha hb fun H1 u v Q _ hu hv q => ⟨i, j, dq_bl hu, dq_bl hv, q _ H1 (Ex.refl H1) (.bl _)⟩
theorem g_forR {D : Ends} {ts tbd : TS} {g : TG} {N : Int} (Pv : Nat → L2.St → Hp → Prop) (h : ED K b ta σ H (.int N)) (n0 : -(2 ^ 62) ≤ N) (n1 : N < 2 ^ 62) (h0 : ∀ H1, Ex H H1 → Pv 0 σ H1)
    (hs : ∀ i σ H, i < N.toNat → Pv i σ H → g (.int (0 + i)) σ H fun σ2 H2 => tbd { D with nx := Pv (i + 1), ct := Pv (i + 1), bk := ts D } σ2 H2) (hd : ∀ σ H, Pv N.toNat σ H → ts D σ H) : tSeq (tFor (iRng1 (tCons ta tNil)) g tbd) ts D σ H :=
  h H (Ex.refl H) _ fun v H1 x1 hv => by
    have e := dq_int hv
    subst e
    exact ⟨N, rfl, n0, n1, for_range Pv (h0 H1 x1) hs hd⟩
end
/-! ### the law called where nothing is being shown -/
abbrev lstO (vs : List Value) : Obj := { cls := .type "list", data := .seq vs.toArray }
section
variable {P : Program} {w : World} {K : PySem.W.Frag} {mg mb : Str → Option Value} {k : Nat} {fa a : Addr} {fd : FuncData} {x : Str} {sp : Sp} {s : Shared} {vs : List Value} {ns : List Int}
/-- what the call leaves -/
def Left (s : Shared) (r : Result) (s' : Shared) : Prop := r = .ok (.ret (.bool true)) ∧ OldK s.heap s'.heap ∧ s'.os = s.os ∧ AllBare s'.gens
theorem law_from {H : Hp} (KX : K.In s.heap) (hm : s.heap.Ns mainGlobals mg) (hb : s.heap.Ns builtinsNs mb) (hbb : ∀ x : Str, x ≠ "__name__" → mb x = bootBuiltins x) (hlim : s.heap.NoLimit) (hge : s.gens = #[]) (ha : s.heap.get? a = some (lstO vs)) (hr : Room k callerA)
    (F : ∀ base : Heap, K.In base → base.Ns mainGlobals mg → FnG P w K mg base k fa fd [x] sp) (hbind : ∀ (s : Shared) (u : Value), BindsTo s fd ⟨[u], []⟩ [(x, u)]) (hsp : sp [.ref a] H (fun v _ => v = .bl true) fun _ _ _ => False) (hok : HOk P w H s.heap)
    (hA : ∀ c, H c = none ∨ (c = a ∧ K.lookup c = none ∧ ∃ xs, H c = some (.frz (lstO vs) (.lst xs)))) : codeAny (model P w) callerA (.call (.ref fa) ⟨[.ref a], []⟩) (Left s) s := by
  have nsOf : ∀ {c : Addr} {m : Str → Option Value}, s.heap.Ns c m → (hidT s.heap H).Ns c m := fun {c m} ⟨o, es, ep, e, d, r⟩ => by
    refine ⟨o, es, ep, hidT_get e ?_, d, r⟩
    rcases hA c with z | ⟨rfl, _⟩
    · exact z
    · rw [ha] at e
      cases e
      cases d
  have inB : K.In (hidT s.heap H) := fun c o e => hidT_get (KX c o e) (by
    rcases hA c with z | ⟨_, z, _⟩
    · exact z
    · rw [z] at e; cases e)
  have hM : Mod K mg (hidT s.heap H) := ⟨inB, nsOf hm, ⟨mb, nsOf hb, hbb⟩, let ⟨mc, h1, h2⟩ := hlim; ⟨mc, nsOf h1, h2⟩⟩
  have env : Env0 P w K mg (hidT s.heap H) callerA [] s H := ⟨rfl, hM, fun _ _ e => of_hidT e, Nat.le_of_eq (hidT_size _ _), trivial, (fun _ z => nomatch z), hok, .of_eq hge⟩
  refine codeAny_mono ((F _ inB (nsOf hm)).go callerA [] s H ⟨[.ref a], []⟩ [.ref a] [.ref a] _ _ rfl hr env (hbind s (.ref a)) (.cons rfl .nil) hsp) fun r s' h => ?_
  rcases r with e | fl
  · exact h.elim
  rcases fl with _ | _ | _ | u
  all_goals try exact False.elim h
  obtain ⟨v, H', os, bare, un, hok', r', q⟩ := h
  have q : v = .bl true := q
  subst q
  obtain rfl : u = Value.bool true := r'
  refine ⟨rfl, OldK.of_keep fun c o e => ?_, os, bare⟩
  rcases hA c with z | ⟨rfl, _, xs, z⟩
  · exact un.keep c o e z (fun y => nomatch y) (by simp)
  · obtain ⟨g1, _⟩ := hok c _ z
    obtain ⟨g2, _⟩ := hok' c _ (un.frzs c _ _ z)
    rw [e] at g1
    cases g1
    exact g2
theorem law_goG (KX : K.In s.heap) (hm : s.heap.Ns mainGlobals mg) (hb : s.heap.Ns builtinsNs mb) (hbb : ∀ x : Str, x ≠ "__name__" → mb x = bootBuiltins x) (hlim : s.heap.NoLimit) (hge : s.gens = #[]) (ha : s.heap.get? a = some (lstO vs)) (hi : IntsAre vs ns) (hl : ns.length ≤ sizeLine) (hr : Room k callerA)
    (F : ∀ base : Heap, K.In base → base.Ns mainGlobals mg → FnG P w K mg base k fa fd [x] sp) (hbind : ∀ (s : Shared) (u : Value), BindsTo s fd ⟨[u], []⟩ [(x, u)]) (hsp : ∀ H : Hp, SqL K H a (ns.map V.int) → sp [.ref a] H (fun v _ => v = .bl true) fun _ _ _ => False) : codeAny (model P w) callerA (.call (.ref fa) ⟨[.ref a], []⟩) (Left s) s := by
  have rv := vals_ints hi
  have ln := hi.length
  cases hk : K.lookup a with
  | some o =>
    have e := KX a o hk
    rw [ha] at e
    cases e
    refine law_from (H := fun _ => none) KX hm hb hbb hlim hge ha hr F hbind (hsp _ (.inr ⟨_, vs.toArray, _, hk, rfl, rfl, rfl, ?_, by simpa using rv⟩)) (fun c u z => nomatch z) fun _ => .inl rfl
    rw [List.size_toArray, ln]
    exact hl
  | none =>
    have at_a : (fun c => if c = a then some (HO.frz (lstO vs) (.lst (ns.map V.int))) else none : Hp) a = some (.frz (lstO vs) (.lst (ns.map V.int))) := if_pos rfl
    refine law_from (H := fun c => if c = a then some (.frz (lstO vs) (.lst (ns.map V.int))) else none) KX hm hb hbb hlim hge ha hr F hbind (hsp _ (.inl (.inr ⟨_, at_a⟩))) (fun c u z => ?_) fun c => ?_
    · by_cases e : c = a
      · subst e
        rw [at_a] at z
        cases z
        exact ⟨ha, by rw [List.length_map]; exact hl, vs, _, rv, ha⟩
      · have z' := (if_neg e).symm.trans z
        cases z'
    · by_cases e : c = a
      · subst e
        exact .inr ⟨rfl, hk, _, at_a⟩
      · exact .inl (if_neg e)
end

theorem PgIn.upB {K : PySem.W.Frag} {b : List Addr} {a : Addr} {n : Nat} {H H' : Hp} {v : V} {ds : List PyData} {ps : List PartV} (ha : a ∈ b) (h : PgIn K b H v ds ps) (x : ExB a H H') (bg : Bag a n H') : PgIn K b H' v ds ps := ⟨x.kn h.kn bg, Dq.upB ha h.dq x, h.pr, h.ok, h.pv⟩
end Wr

set_option Elab.async false
set_option linter.all false
set_option maxRecDepth 100000
set_option maxHeartbeats 4000000
namespace Wr
open PySem PySem.Spec PyProof.Rows L2 Evl
/-! ### law -/
abbrev s_law : Stmt := topS 53
abbrev NW : List Str := ["_law_script", "_law_at", "_law_bag_here", "_law_program", "_law_turn", "_law_part", "_law_row"]
theorem sc_law : FnScope NW ["_law_script"] (defScope s_law) := ⟨rfl, rfl, rfl, by decide +kernel, rfl, by decide +kernel, by decide +kernel⟩
/-- what a told answer may be -/
theorem two_ok {x : Str} {d : PyData} (hx : PyData.strOk x = true) (hl : x.length ≤ 100) (h : ThP d) : okD 29 (.list [.str x, d]) = true ∧ szD (.list [.str x, d]) ≤ 200000 := by
  refine ⟨?_, ?_⟩
  · show (decide (2 ≤ 1000) && [PyData.str x, d].all (okD 28)) = true
    have h1 : okD 28 (.str x) = true := by
      show (PyData.strOk x && decide (x.length ≤ 1000)) = true
      rw [hx, decide_eq_true (by omega)]
      rfl
    have h2 : okD 28 d = true := ok_up h.1 (by decide)
    simp [h1, h2]
  · rw [szD_lst]
    simp only [szAll, szD]
    have := h.2
    omega
theorem ans_ok {ds : List PyData} {ps : List PartV} {part d : PyData} (pV : PrgV ds ps) (ok : okL 60 4 (.tuple ds) = true) (sz : szD (.tuple ds) ≤ 1000000) (h1 : ThP part) (h2 : ThP d) : okD 30 (.list [numD ps part, fouD ps part d]) = true ∧ szD (.list [numD ps part, fouD ps part d]) ≤ 16000000 := by
  have tp := two_ok (x := "NoPart") (by decide +kernel) (by decide) h1
  have tr := two_ok (x := "NoRow") (by decide +kernel) (by decide) h2
  have hn : okD 29 (numD ps part) = true ∧ szD (numD ps part) ≤ 200000 := by
    cases hp : posV ps part with
    | none => rw [num_none hp]; exact tp
    | some i =>
      rw [num_some hp]
      have hil : i < ps.length := (List.findIdx?_eq_some_iff_getElem.mp hp).1
      have := pV.l8
      refine ⟨decide_eq_true ?_, by rw [szD_int]; decide⟩
      have e : ((i : Nat) : Int).natAbs = i := Int.natAbs_natCast i
      rw [e]
      exact Nat.lt_of_lt_of_le (show i < 8 by omega) (by decide)
  have hf : okD 29 (fouD ps part d) = true ∧ szD (fouD ps part d) ≤ 1000000 := by
    cases hp : posV ps part with
    | none => rw [fou_none hp]; exact ⟨tp.1, by have := tp.2; omega⟩
    | some i =>
      obtain ⟨p, x, hpi, _⟩ := pos_some hp
      rw [fou_some hp hpi]
      cases hx : indexD d (p.rs.length : Nat) with
      | false => rw [if_neg Bool.false_ne_true]; exact ⟨tr.1, by have := tr.2; omega⟩
      | true =>
        rw [if_pos rfl]
        obtain ⟨j, rfl, hj⟩ := index_int hx
        have hj' : j < p.rs.length := by omega
        have hr' : p.rs[j]? = some p.rs[j] := List.getElem?_eq_getElem hj'
        have hg : p.rs.getD (intOf (.int (j : Nat))).toNat .none = p.rs[j] := by
          show p.rs.getD ((j : Nat) : Int).toNat .none = p.rs[j]
          rw [Int.toNat_natCast, List.getD_eq_getElem?_getD, hr']
          rfl
        rw [hg]
        have hm : p.rs[j] ∈ p.rs := List.getElem_mem hj'
        have hpd : p.d ∈ ds := by rw [pV.e]; exact List.mem_map.mpr ⟨p, List.mem_of_getElem? hpi, rfl⟩
        have m3 : PyData.tuple p.rs ∈ [PyData.str p.x, .tuple (p.ns.map .str), .tuple p.rs] := List.mem_cons_of_mem _ (List.mem_cons_of_mem _ List.mem_cons_self)
        have okd : okD 4 (.tuple ds) = true := okL_ok (by decide) 4 _ ok
        have ok3 : okD 3 p.d = true := ok_items okd _ hpd
        have ok2 : okD 2 (.tuple p.rs) = true := ok_items (n := 2) ok3 _ m3
        have ok1 : okD 1 p.rs[j] = true := ok_items ok2 _ hm
        refine ⟨ok_up ok1 (by decide), ?_⟩
        rw [szD_tup] at sz
        have z1 := szAll_mem hpd
        have z2 : szD p.d = szAll [PyData.str p.x, .tuple (p.ns.map .str), .tuple p.rs] + 3 := szD_tup _
        have z3 := szAll_mem m3
        rw [szD_tup] at z3
        have z4 := szAll_mem hm
        omega
  refine ⟨?_, ?_⟩
  · show (decide (2 ≤ 1000) && [numD ps part, fouD ps part d].all (okD 29)) = true
    simp [hn.1, hf.1]
  · rw [szD_lst]
    simp only [szAll]
    have := hn.2
    have := hf.2
    omega
section
variable {K : PySem.W.Frag} {b : List Addr} {a : Addr} {n m k : Nat} {σ : L2.St} {H H' : Hp} {t1 t2 t3 ta tb : TE} {part d : PyData} {ds : List PyData} {ps : List PartV}
theorem ed_to {i1 i2 i3 : Nat} {v v2 v3 : V} {E : XK} (e1 : σ[i1]? = some (some v)) (e2 : σ[i2]? = some (some v2)) (e3 : σ[i3]? = some (some v3)) (PI : PgIn K b H v ds ps) (h2 : Dq K b H v2 part) (ok2 : okD 30 part = true) (h3 : Dq K b H v3 d) (ok3 : okD 30 d = true) :
    ED K b (tCall (spTo K) [] E (tCons (tVar i1) (tCons (tVar i2) (tCons (tVar i3) tNil)))) σ H (.list [numD ps part, fouD ps part d]) := fun H1 x1 Q q =>
  ⟨v, e1, v2, e2, v3, e3, b, v, v2, v3, ds, ps, part, d, rfl, PI.up x1, Dq.up h2 x1, ok2, Dq.up h3 x1, ok3, fun u H2 x2 hu => q u H2 x2 hu⟩
theorem ed_du {i1 i2 i3 : Nat} {v v2 v3 : V} {E : XK} (e1 : σ[i1]? = some (some v)) (e2 : σ[i2]? = some (some v2)) (e3 : σ[i3]? = some (some v3)) (PI : PgIn K b H v ds ps) (h2 : Dq K b H v2 part) (ok2 : okD 30 part = true) (h3 : Dq K b H v3 d) (ok3 : okD 30 d = true) :
    ED K b (tCall (spDu K) [] E (tCons (tVar i1) (tCons (tVar i2) (tCons (tVar i3) tNil)))) σ H (.list [numD ps part, fouD ps part d]) := fun H1 x1 Q q =>
  ⟨v, e1, v2, e2, v3, e3, b, v, v2, v3, ds, ps, part, d, rfl, PI.up x1, Dq.up h2 x1, ok2, Dq.up h3 x1, ok3, fun u H2 x2 hu => q u H2 x2 hu⟩
theorem ed_al {D : PyData} {E : XK} (h1 : ED K b ta σ H D) (h2 : ED K b tb σ H D) (ho : okD 30 D = true) (hz : szD D ≤ 16000000) : ED K b (tCall (spAl K) [] E (tCons ta (tCons tb tNil))) σ H (.bool true) := fun H1 x1 Q q =>
  h1 H1 x1 _ fun v H2 x2 hv => h2 H2 (x1.trans x2) _ fun v2 H3 x3 hv2 => ⟨b, v, v2, D, rfl, Dq.up hv x3, hv2, ho, hz, fun H4 x4 => q _ H4 ((x2.trans x3).trans x4) (.bl true)⟩
end
theorem th_str {x : Str} (h : okD 28 (.str x) = true) : ThP (.str x) := by
  have q : (PyData.strOk x && decide (x.length ≤ 1000)) = true := h
  rw [Bool.and_eq_true] at q
  have l := of_decide_eq_true q.2
  refine ⟨?_, by rw [szD_str]; omega⟩
  show (PyData.strOk x && decide (x.length ≤ 1000)) = true
  rw [q.1, q.2]
  rfl
section
variable {P : Program} {w : World} {K : PySem.W.Frag} {mg : Str → Option Value} {base : Heap} {f g1 g2 g3 g4 g5 g6 g9 : Addr} {fd gd1 gd2 gd3 gd4 gd5 gd6 gd9 : FuncData}
theorem ok_law (D : Def K mg "law" s_law ["_law_script"] f fd) (B : Blt mg) (B2 : Blt2 mg) (D1 : Def K mg "_law_bag" s_bag ["_law_script", "_law_at"] g1 gd1) (G1 : FnOk P w K mg base CX0 1 g1 gd1 ["_law_script", "_law_at"] (spBag K))
    (D2 : Def K mg "_law_any_program" s_prog3 ["_law_bag_here"] g2 gd2) (G2 : FnOk P w K mg base CX0 4 g2 gd2 ["_law_bag_here"] (spG K 2000 (· = []) fun _ d => ProgP d))
    (D3 : Def K mg "_law_odd" s_od ["_law_bag_here"] g3 gd3) (G3 : FnOk P w K mg base CX0 2 g3 gd3 ["_law_bag_here"] (spG K 1 (· = []) fun _ d => d ∈ oddL))
    (D4 : Def K mg "_law_told" s_to PTo g4 gd4) (G4 : FnOk P w K mg base CX0 8 g4 gd4 PTo (spTo K))
    (D5 : Def K mg "_law_due" s_du PTo g5 gd5) (G5 : FnOk P w K mg base CX0 1 g5 gd5 PTo (spDu K))
    (D6 : Def K mg "_law_alike" s_al NAl g6 gd6) (G6 : FnG P w K mg base 1 g6 gd6 NAl (spAl K))
    (D9 : Def K mg "_law_take" s_take ["_law_bag_here", "_law_many"] g9 gd9) : FnG P w K mg base 9 f fd ["_law_script"] (spLaw K) := by
  refine D.okG sc_law (fun vs H Q E ⟨a, ns, e, _⟩ => by rw [e]; rfl) (fun cdv A outer s H vs Q E hg hr h => ?_)
  obtain ⟨a, ns, rfl, hS, hn, q⟩ := h
  have r1 : Room 1 _ := hr.mono (by decide)
  have r2 : Room 2 _ := hr.mono (by decide)
  have r4 : Room 4 _ := hr.mono (by decide)
  have G9 := ok_take (P := P) (w := w) (base := base) D9
  refine ⟨_, pss_cons (ps_for PassesOwn.never rfl (pi_range1 rfl B.range (pa_cons (pe_callB (cr_max2 rfl) rfl B2.max bb_max (pa_cons pe_int (pa_cons (pe_callB (cr_min2 rfl) rfl B2.min bb_min (pa_cons pe_int (pa_cons (pe_callB call_lenD1 rfl B.len bb_len (pa_cons (pv 0) pa_nil)) pa_nil))) pa_nil))) pa_nil)) (pg_name (i := 1) sc_law.nd rfl (Or.inl rfl)) (pss_cons (ps_set (i := 2) sc_law.nd rfl (Or.inl rfl) (pe_cd D1 G1 r1 (pa_cons (pv 0) (pa_cons (pv 1) pa_nil))))
    (pss_cons (ps_set (i := 3) sc_law.nd rfl (Or.inl rfl) (pe_cd D2 G2 r4 (pa_cons (pv 2) pa_nil)))
    (pss_one (ps_for PassesOwn.never rfl (pi_range1 rfl B.range (pa_cons pe_int pa_nil)) (pg_name (i := 4) sc_law.nd rfl (Or.inl rfl)) (pss_cons (ps_set (i := 5) sc_law.nd rfl (Or.inl rfl) (pe_ix ix_tup (pe_ix ix_tup (pv 3) (pe_cd D9 G9 r1 (pa_cons (pv 2) (pa_cons (pe_callB call_lenD1 rfl B.len bb_len (pa_cons (pv 3) pa_nil)) pa_nil))) (fun _ _ => rfl)) pe_int (fun _ _ => rfl)))
    (pss_cons (ps_set (i := 6) sc_law.nd rfl (Or.inl rfl) (pe_op op_sub (pe_cd D9 G9 r1 (pa_cons (pv 2) (pa_cons pe_int pa_nil))) pe_int))
    (pss_cons (ps_if (pt_cmpR op_gt (pv 4) pe_int (nomark _)) (pss_cons (ps_set (i := 5) sc_law.nd rfl (Or.inl rfl) (pe_ix ix_list (pe_lst (pa_cons (pv 5) (pa_cons (pe_cd D3 G3 r2 (pa_cons (pv 2) pa_nil)) pa_nil))) (pe_cd D9 G9 r1 (pa_cons (pv 2) (pa_cons pe_int pa_nil))) (fun _ _ => rfl)))
    (pss_one (ps_set (i := 6) sc_law.nd rfl (Or.inl rfl) (pe_ix ix_list (pe_lst (pa_cons (pv 6) (pa_cons (pe_cd D3 G3 r2 (pa_cons (pv 2) pa_nil)) pa_nil))) (pe_cd D9 G9 r1 (pa_cons (pv 2) (pa_cons pe_int pa_nil))) (fun _ _ => rfl))))) pss_nil)
    (pss_one (ps_if (pt_not (pt_val (pe_cdG D6 G6 hg (hr.mono (by decide)) (pa_cons (pe_cd D4 G4 hr (pa_cons (pv 3) (pa_cons (pv 5) (pa_cons (pv 6) pa_nil)))) (pa_cons (pe_cd D5 G5 r1 (pa_cons (pv 3) (pa_cons (pv 5) (pa_cons (pv 6) pa_nil)))) pa_nil))))) (pss_one (ps_ret pe_bl)) pss_nil))))))))))
    (pss_one (ps_ret pe_bl)), ?_⟩
  have hsl : sizeLine = 16777216 := sizeLine_eq
  have hD : ∀ {H'}, Ex H H' → Dq K [] H' (.ref a) (.list (ns.map .int)) := fun {H'} x => by
    show Dd K (hid [] H') _ _
    rw [hid_nil]
    exact .lst (ex_l x hS) (ints_dps ns)
  have kn0 : ∀ {H' : Hp}, Kn [] H' := fun z hz => nomatch hz
  have cnt := ed_max2 (K := K) (b := []) (ed_int (i := 2)) (ed_min2 (ed_int (i := 6)) (ed_len (ed_var (σ := start NW [.ref a]) (i := 0) rfl (hD (Ex.refl H))) (.inr (.inl rfl)) fun y e => by cases e))
  have c0 : ∀ ll : Int, 2 ≤ (if (if ll < 6 then ll else 6) > 2 then (if ll < 6 then ll else 6) else 2) ∧ (if (if ll < 6 then ll else 6) > 2 then (if ll < 6 then ll else 6) else 2) ≤ 6 := fun ll => by
    by_cases h1 : ll < 6
    · rw [if_pos h1]
      by_cases h2 : ll > 2
      · rw [if_pos h2]; omega
      · rw [if_neg h2]; omega
    · rw [if_neg h1, if_pos (by decide)]; omega
  have c1 := c0 ((lenD (.list (ns.map PyData.int)) : Nat) : Int)
  generalize (if (if ((lenD (.list (ns.map PyData.int)) : Nat) : Int) < 6 then ((lenD (.list (ns.map PyData.int)) : Nat) : Int) else 6) > 2 then (if ((lenD (.list (ns.map PyData.int)) : Nat) : Int) < 6 then ((lenD (.list (ns.map PyData.int)) : Nat) : Int) else 6) else 2) = N at c1 cnt
  refine g_forR (Pv := fun i σ' H' => (∃ y1 y2 y3 y4 y5 y6, σ' = [some (.ref a), y1, y2, y3, y4, y5, y6]) ∧ Ex H H') cnt (by omega) (by omega) (fun H1 x1 => ⟨⟨none, none, none, none, none, none, rfl⟩, x1⟩) ?_ ?_
  · intro i σ' H' hi ⟨⟨y1, y2, y3, y4, y5, y6, eσ⟩, xH⟩
    subst eσ
    refine ⟨.ref a, rfl, .int (0 + i), rfl, [], ns, 0 + i, kn0, ?_, by omega, by omega, fun p H2 hp x2 bg => ?_⟩
    · exact .cons (hD xH) (.cons (.int _) .nil)
    have hp0 : H p = none := by
      cases z : H p with
      | none => rfl
      | some o => rw [xH _ _ z] at hp; cases hp
    have hab : p ∈ [p] := List.mem_singleton.mpr rfl
    refine g_setG (K := K) (b := [p]) (a := p) (n := 998000 + 2000) (k := 998000) (P1 := ProgP) (eg_call (c := 2000) (S := (· = [])) hab rfl ega_nil (fun _ e => e) fun _ _ _ z => z) bg.kn bg fun v d H3 x3 b3 kn3 hv ⟨p1, p2, p3⟩ => ?_
    have okd : okD 30 d = true := ok_up (okL_ok (by decide) 4 d p2) (by decide)
    obtain ⟨ds, ps, ed, pV⟩ := prg_view p1
    subst ed
    have PI3 : PgIn K [p] H3 v ds ps := ⟨kn3, hv, p1, okd, pV⟩
    have xH3 : Ex H H3 := ex_exb hp0 (xH.trans x2) x3
    have hlen : ds.length = ps.length := by rw [pV.e, List.length_map]
    have hl8 := pV.l8
    have hl0 := pV.l0
    refine ⟨16, rfl, by decide, by decide, ?_⟩
    refine for_range (Pv := fun j σ'' H'' => (∃ z4 z5 z6, σ'' = [some (.ref a), some (.int (0 + i)), some (.ref p), some v, z4, z5, z6]) ∧ ExB p H3 H'' ∧ Bag p (998000 - 6 * j) H'') ⟨⟨y4, y5, y6, rfl⟩, ExB.refl p H3, b3⟩ ?_ ?_
    · intro j σ'' H4 hj ⟨⟨z4, z5, z6, eσ⟩, x4, b4⟩
      subst eσ
      have hj16 : j < 16 := hj
      obtain ⟨m, hm⟩ : ∃ m, m = 998000 - 6 * (j + 1) := ⟨_, rfl⟩
      have em : 998000 - 6 * j = m + 5 + 1 := by omega
      have em2 : 998000 - 6 * (j + 1) = m := hm.symm
      rw [em] at b4
      rw [em2]
      have kn4 := x4.kn kn3 b4
      have PI4 := PI3.upB hab x4 b4
      show tSeq _ _ _ [some (.ref a), some (.int (0 + i)), some (.ref p), some v, some (.int (0 + j)), z5, z6] H4
      have part0 : EG K [p] p (m + 5 + 1) (m + 5) (tOp (rIxT K) (tOp (rIxT K) (tVar 3) (tCall (spTake K) [] E0 (tCons (tVar 2) (tCons (tCB (rLen K) (tCons (tVar 3) tNil)) tNil)))) (tC (.int 0))) [some (V.ref a), some (.int (0 + i)), some (.ref p), some v, some (.int (0 + j)), z5, z6] H4 ThP := by
        refine eg_ixT (P1 := fun d => ∃ p' ∈ ps, d = p'.d) (P2 := (· = .int 0)) hab ?_ (eg_pure (fun _ _ _ => ed_int) rfl) ?_
        · refine eg_ixT (P1 := (· = .tuple ds)) (P2 := IntB (ds.length : Nat)) hab (eg_var (i := 3) rfl hab PI4.dq rfl) (eg_takeE (u := (ds.length : Nat)) (P1 := (· = .int (ds.length : Nat))) hab rfl (eg_pure (fun H1 x1 kn1 => ed_len (ed_var (i := 3) rfl (PI4.dq.upB hab x1)) (.inr (.inr rfl)) fun y e => by cases e) rfl) fun d e => ⟨_, e, by omega, by omega, Int.le_refl _⟩) ?_
          rintro d e rfl hi'
          obtain ⟨j', z, rfl, hz, hm'⟩ := intB_at (ds := ds) hi' (Int.le_refl _)
          refine ⟨_, j', z, rfl, rfl, hz, ?_⟩
          rw [pV.e] at hm'
          obtain ⟨p', hp', e'⟩ := List.mem_map.mp hm'
          exact ⟨p', hp', e'.symm⟩
        · rintro d e ⟨p', hp', rfl⟩ rfl
          refine ⟨_, 0, .str p'.x, rfl, rfl, atI_nat (j := 0) rfl, ?_⟩
          have h1 : okD 29 p'.d = true := ok_items okd _ (by rw [pV.e]; exact List.mem_map.mpr ⟨p', hp', rfl⟩)
          exact th_str (ok_items (n := 28) h1 _ List.mem_cons_self)
      refine g_setG part0 kn4 b4 fun v5 d5 H5 x5 b5 kn5 hv5 t5 => ?_
      show tSeq _ _ _ [some (.ref a), some (.int (0 + i)), some (.ref p), some v, some (.int (0 + j)), some v5, z6] H5
      have row0 : EG K [p] p (m + 4 + 1) (m + 4) (tOp (rI0 fun i j => .int (i - j)) (tCall (spTake K) [] E0 (tCons (tVar 2) (tCons (tC (.int 14)) tNil))) (tC (.int 1))) [some (V.ref a), some (.int (0 + i)), some (.ref p), some v, some (.int (0 + j)), some v5, z6] H5 ThP := by
        refine eg_I0 (g := fun i j => i - j) hab (eg_take (n := m + 4) hab rfl (by decide) (by decide)) (eg_pure (P := (· = .int 1)) (fun _ _ _ => ed_int) rfl) ?_
        rintro d e ⟨r, rfl, g0, g1⟩ rfl
        refine ⟨r, 1, rfl, rfl, decide_eq_true ?_, by rw [szD_int]; decide⟩
        have : (r - 1).natAbs < 100 := by omega
        exact Nat.lt_of_lt_of_le this (by decide)
      refine g_setG row0 kn5 b5 fun v6 d6 H6 x6 b6 kn6 hv6 t6 => ?_
      have hv5' := hv5.upB hab x6
      have x46 := x4.trans (x5.trans x6)
      have rest : ∀ (v5 v6 : V) (d5 d6 : PyData) (H7 : Hp), ExB p H3 H7 → Bag p m H7 → Dq K [p] H7 v5 d5 → ThP d5 → Dq K [p] H7 v6 d6 → ThP d6 →
          tIfS (tNot (tB (tCall (spAl K) [] E0 (tCons (tCall (spTo K) [] E0 (tCons (tVar 3) (tCons (tVar 5) (tCons (tVar 6) tNil)))) (tCons (tCall (spDu K) [] E0 (tCons (tVar 3) (tCons (tVar 5) (tCons (tVar 6) tNil)))) tNil))))) (tRet (tC (.bl false))) tNext
            { nx := fun σ'' H'' => (∃ z4 z5 z6, σ'' = [some (V.ref a), some (.int (0 + i)), some (.ref p), some v, z4, z5, z6]) ∧ ExB p H3 H'' ∧ Bag p m H'', rt := Q, ct := fun σ'' H'' => (∃ z4 z5 z6, σ'' = [some (V.ref a), some (.int (0 + i)), some (.ref p), some v, z4, z5, z6]) ∧ ExB p H3 H'' ∧ Bag p m H'', bk := fun _ _ => False } [some (.ref a), some (.int (0 + i)), some (.ref p), some v, some (.int (0 + j)), some v5, some v6] H7 := fun v5 v6 d5 d6 H7 x7 b7 h5 t5 h6 t6 => by
        have PI7 := PI3.upB hab x7 b7
        obtain ⟨ao, az⟩ := ans_ok pV p2 p3 t5 t6
        have o5 := ok_up t5.1 (by decide : 25 ≤ 30)
        have o6 := ok_up t6.1 (by decide : 25 ≤ 30)
        have al := ed_al (E := E0) (ed_to (E := E0) (σ := [some (V.ref a), some (.int (0 + i)), some (.ref p), some v, some (.int (0 + j)), some v5, some v6]) (i1 := 3) (i2 := 5) (i3 := 6) rfl rfl rfl PI7 h5 o5 h6 o6) (ed_du (E := E0) (i1 := 3) (i2 := 5) (i3 := 6) rfl rfl rfl PI7 h5 o5 h6 o6) ao az
        refine (et_n (et_b al)) H7 (Ex.refl H7) _ fun H8 x8 => ?_
        show (if (!true) = true then _ else _)
        rw [show (!true) = false from rfl, if_neg Bool.false_ne_true]
        exact ⟨⟨_, _, _, rfl⟩, x7.trans (exb x8), b7.ex x8⟩
      have kn7 : ∀ {H7}, Ex H6 H7 → Kn [p] H7 := fun x7 => kn6.up x7
      have draw : ∀ {n i0 : Nat} {v0 : V} {d0 : PyData} {σ : L2.St} {H : Hp}, σ[2]? = some (some (V.ref p)) → σ[i0]? = some (some v0) → Dq K [p] H v0 d0 → ThP d0 →
          EG K [p] p (n + 1 + 1) n (tOp (rIxL K) (tLst (tCons (tVar i0) (tCons (tCall (spG K 1 (· = []) fun _ d => d ∈ oddL) [] E0 (tCons (tVar 2) tNil)) tNil))) (tCall (spTake K) [] E0 (tCons (tVar 2) (tCons (tC (.int 2)) tNil)))) σ H ThP := fun {n i0 v0 d0 σ H} s2 si hd t => by
        refine eg_ixL (P1 := fun d => ∃ x y, d = .list [x, y] ∧ ThP x ∧ ThP y) hab (eg_lst (ega_cons (P := ThP) hab (eg_var si hab hd t) (ega_cons (P := ThP) hab (eg_call (c := 1) (S := (· = [])) hab s2 ega_nil (fun _ e => e) fun _ _ _ z => odd_all z) ega_nil)) ?_) (eg_take (n := n) hab s2 (by decide) (by decide)) ?_
        · rintro ds ⟨d1, r1, rfl, t1, d2, r2, rfl, t2, rfl⟩
          exact ⟨by rw [hsl]; show 2 ≤ 16777216; decide, d1, d2, rfl, t1, t2⟩
        · rintro d e ⟨x, y, rfl, tx, ty⟩ hi'
          obtain ⟨j', z, rfl, hz, hm'⟩ := intB_at (ds := [x, y]) hi' (by show (2 : Int) ≤ ((2 : Nat) : Int); decide)
          refine ⟨_, j', z, rfl, rfl, hz, ?_⟩
          rcases List.mem_cons.mp hm' with rfl | hm'
          · exact tx
          · rw [List.mem_singleton.mp hm']
            exact ty
      have c7 := et_t (ed_gt (K := K) (b := [p]) (σ := [some (V.ref a), some (.int (0 + i)), some (.ref p), some v, some (.int (0 + j)), some v5, some v6]) (H := H6) (ed_var (i := 4) (d := .int (0 + j)) rfl (.int _)) (ed_int (i := 7)))
      refine g_ifE (K := K) c7 fun H7 x7 => ?_
      have b7 := b6.ex x7
      have h57 := Dq.up hv5' x7
      have h67 := Dq.up hv6 x7
      split
      · refine g_setG (draw (n := m + 1 + 1) (i0 := 5) rfl rfl h57 t5) (kn7 x7) b7 fun v5 d5 H8 x8 b8 kn8 hv8 t8 => ?_
        show tAsg _ _ _ [some (.ref a), some (.int (0 + i)), some (.ref p), some v, some (.int (0 + j)), some v5, some v6] H8
        have h68 := h67.upB hab x8
        refine (draw (n := m) (i0 := 6) rfl rfl h68 t6) H8 (ExB.refl p H8) kn8 b8 _ fun v6 d6 H9 x9 b9 hv9 t9 => ?_
        exact rest v5 v6 d5 d6 H9 (x46.trans ((exb x7).trans (x8.trans x9))) b9 (hv8.upB hab x9) t8 hv9 t9
      · exact rest v5 v6 d5 d6 H7 (x46.trans (exb x7)) (b7.le (by omega)) h57 t5 h67 t6
    · intro σ'' H4 ⟨⟨z4, z5, z6, eσ⟩, x4, b4⟩
      subst eσ
      exact ⟨⟨_, _, _, _, _, _, rfl⟩, ex_exb hp0 (xH.trans x2) (x3.trans x4)⟩
  · intro σ' H' ⟨⟨y1, y2, y3, y4, y5, y6, eσ⟩, xH⟩
    subst eσ
    exact q H'
end
end Wr

set_option Elab.async false
set_option linter.all false
set_option maxRecDepth 100000
set_option maxHeartbeats 4000000
namespace Wr
open PySem PySem.Spec PyProof.Rows L2 Evl
theorem def_mk {K : PySem.W.Frag} {h : Heap} {mg : Str → Option Value} {x : Str} {st : Stmt} {ps : List Str} {f : Addr} {oc : Value} {od an : Option Addr} {osl : Array (Option Value)} {kV doc pm cdv ct : Value} (X : K.In h) (G : h.Ns mainGlobals mg)
    (a : PySem.W.nsIn K mainGlobals x = some (some (.ref f))) (l : K.lookup f = some ⟨oc, od, .func (PySem.W.fnOf x x (defArgs st) (defBody st) (defScope st) .none kV doc pm an cdv ct), osl⟩) (c : PySem.W.codeIn K cdv x = true) (k : PySem.W.keepIn K (.ref f) = true)
    (hb : ∀ (kV doc pm : Value) (an : Option Addr) (cdv ct : Value) (us : List Value), us.length = ps.length → bindArgs (PySem.W.fnOf x x (defArgs st) (defBody st) (defScope st) .none kV doc pm an cdv ct) ⟨us, []⟩ = pure (ps.zip us)) :
    Def K mg x st ps f (PySem.W.fnOf x x (defArgs st) (defBody st) (defScope st) .none kV doc pm an cdv ct) :=
  ⟨fun_mk (st := st) l c k, (fun_mk (st := st) l c k).binds hb, PySem.W.mg_of X G a⟩
theorem word_tup {K : PySem.W.Frag} {a : Addr} {n : Nat} {its : List Value} {xs : List V} (l : K.lookup a = some ⟨.type "tuple", none, .seq its.toArray n, #[]⟩) (hz : its.length ≤ 1000) (r : Vals xs its) : ∀ H, SqT K H a xs ∧ TN K H a := fun H =>
  ⟨.inr ⟨_, its.toArray, n, l, rfl, rfl, by rw [List.size_toArray]; exact Nat.le_trans hz (by decide), by simpa using r⟩, .inr ⟨_, l, rfl, rfl⟩⟩

theorem exm_self {K : PySem.W.Frag} {S : Addr} (h1 : PySem.W.subIn K (.ref S) (.type "BaseException") = some true) (h2 : PySem.W.isClsIn K S = true) (h3 : PySem.W.typeIn K (.ref S) = some (.type "type")) (h4 : PySem.W.subIn K (.ref S) (.ref S) = some true) :
    PySem.W.exmOne K (.ref S) (.ref S) = some true := by
  have e1 : (PySem.W.subIn K (.ref S) (.type "BaseException") == some true) = true := by rw [h1] <;> rfl
  have e2 : ((PySem.W.clsIn K S).isSome && PySem.W.typeIn K (.ref S) == some (.type "type")) = true := by
    have h2' : (PySem.W.clsIn K S).isSome = true := h2
    rw [h2', h3] <;> rfl
  have e3 : PySem.W.kitCls K (.ref S) (.ref S) = some true := by
    unfold PySem.W.kitCls
    exact (if_pos e2).trans h4
  unfold PySem.W.exmOne
  exact (if_pos e1).trans e3
theorem kit_sub {K : PySem.W.Frag} {S : Addr} {T : String} (hm : PySem.W.kitMeta T = true) (h : PySem.W.subIn K (.ref S) (.type T) = some true) : PySem.W.kitOne K (.ref S) (.type T) = some true := by
  have e : PySem.W.kitCls K (.ref S) (.type T) = some true := by
    unfold PySem.W.kitCls
    exact (if_pos hm).trans h
  unfold PySem.W.kitOne
  split
  · rfl
  · exact e
theorem exm_other {K : PySem.W.Frag} {S S2 : Addr} (h1 : PySem.W.subIn K (.ref S) (.type "BaseException") = some true) (h2 : PySem.W.isClsIn K S = true) (h3 : PySem.W.typeIn K (.ref S) = some (.type "type")) (h4 : PySem.W.subIn K (.ref S2) (.ref S) = some false) :
    PySem.W.exmOne K (.ref S2) (.ref S) = some false := by
  have e1 : (PySem.W.subIn K (.ref S) (.type "BaseException") == some true) = true := by rw [h1] <;> rfl
  have e2 : ((PySem.W.clsIn K S).isSome && PySem.W.typeIn K (.ref S) == some (.type "type")) = true := by
    have h2' : (PySem.W.clsIn K S).isSome = true := h2
    rw [h2', h3] <;> rfl
  have e3 : PySem.W.kitCls K (.ref S2) (.ref S) = some false := by
    unfold PySem.W.kitCls
    exact (if_pos e2).trans h4
  unfold PySem.W.exmOne
  exact (if_pos e1).trans e3
theorem kic_mk {K : PySem.W.Frag} {C : Addr} {d0 d1 d2 d3 d4 d5 d6 d7 d8 d9 d10 d11 : Addr} {i : Nat} {bs : List Bool} (hi : i < 12)
    (o0 : PySem.W.kitOne K (.ref C) (.ref d0) = some (decide (0 = i))) (o1 : PySem.W.kitOne K (.ref C) (.ref d1) = some (decide (1 = i))) (o2 : PySem.W.kitOne K (.ref C) (.ref d2) = some (decide (2 = i))) (o3 : PySem.W.kitOne K (.ref C) (.ref d3) = some (decide (3 = i))) (o4 : PySem.W.kitOne K (.ref C) (.ref d4) = some (decide (4 = i))) (o5 : PySem.W.kitOne K (.ref C) (.ref d5) = some (decide (5 = i))) (o6 : PySem.W.kitOne K (.ref C) (.ref d6) = some (decide (6 = i))) (o7 : PySem.W.kitOne K (.ref C) (.ref d7) = some (decide (7 = i))) (o8 : PySem.W.kitOne K (.ref C) (.ref d8) = some (decide (8 = i))) (o9 : PySem.W.kitOne K (.ref C) (.ref d9) = some (decide (9 = i))) (o10 : PySem.W.kitOne K (.ref C) (.ref d10) = some (decide (10 = i))) (o11 : PySem.W.kitOne K (.ref C) (.ref d11) = some (decide (11 = i)))
    (b0 : PySem.W.kitOne K (.ref C) (.type "ValueError") = some (bs.getD 0 false)) (b1 : PySem.W.kitOne K (.ref C) (.type "KeyError") = some (bs.getD 1 false)) (b2 : PySem.W.kitOne K (.ref C) (.type "IndexError") = some (bs.getD 2 false)) (b3 : PySem.W.kitOne K (.ref C) (.type "OverflowError") = some (bs.getD 3 false)) (b4 : PySem.W.kitOne K (.ref C) (.type "ValueError") = some (bs.getD 4 false)) (b5 : PySem.W.kitOne K (.ref C) (.type "ValueError") = some (bs.getD 5 false)) (b6 : PySem.W.kitOne K (.ref C) (.type "LookupError") = some (bs.getD 6 false)) (b7 : PySem.W.kitOne K (.ref C) (.type "OverflowError") = some (bs.getD 7 false)) (b8 : PySem.W.kitOne K (.ref C) (.type "RuntimeError") = some (bs.getD 8 false)) (b9 : PySem.W.kitOne K (.ref C) (.type "ValueError") = some (bs.getD 9 false)) (b10 : PySem.W.kitOne K (.ref C) (.type "ValueError") = some (bs.getD 10 false)) (b11 : PySem.W.kitOne K (.ref C) (.type "KeyError") = some (bs.getD 11 false)) (bi : bs.getD i false = true) : KiC K C [d0, d1, d2, d3, d4, d5, d6, d7, d8, d9, d10, d11] i bs :=
  ⟨hi, fun j hj => match j, hj with
    | 0, _ => o0
    | 1, _ => o1
    | 2, _ => o2
    | 3, _ => o3
    | 4, _ => o4
    | 5, _ => o5
    | 6, _ => o6
    | 7, _ => o7
    | 8, _ => o8
    | 9, _ => o9
    | 10, _ => o10
    | 11, _ => o11, fun j hj => match j, hj with
    | 0, _ => b0
    | 1, _ => b1
    | 2, _ => b2
    | 3, _ => b3
    | 4, _ => b4
    | 5, _ => b5
    | 6, _ => b6
    | 7, _ => b7
    | 8, _ => b8
    | 9, _ => b9
    | 10, _ => b10
    | 11, _ => b11, bi⟩
theorem all_mk {l : PySem.W.OpenLaw} {w : World} {K : PySem.W.Frag} {h : Heap} {mg : Str → Option Value} {fa C fI C2 fI2 d0 d3 d4 d5 d6 d7 d8 d9 d10 d11 f1 f2 f3 f4 f5 f6 f7 f8 f9 f10 f11 f12 f13 f14 f15 f16 f17 f18 f19 f20 f21 f22 f23 f24 f25 f26 f27 f28 f29 f30 aN aR aL : Addr} (X : K.In h) (G : h.Ns mainGlobals mg) (hfa : mg "law" = some (.ref fa))
    {nm q : Str} {Nn : Addr} {bs : List Value} {sn : List Str} {sub : List Value} {ab : Bool} {col : Option Bool} {dd : Option Addr} {mm0 mm1 mm2 mm3 mm5 : Option Value}
    {odI anI : Option Addr} {slI : Array (Option Value)} {ocI kVI dcI pmI cdI ctI : Value}
    (aC : PySem.W.nsIn K mainGlobals "NoPart" = some (some (.ref C)))
    (xL : K.lookup C = some (excClassObj nm q C Nn bs keTail true sn sub ab col dd mm0 mm1 mm2 mm3 mm5 "LookupError.__new__"))
    (sa : PySem.W.findIn K (.ref C) "__setattr__" = some (some (.builtin "object.__setattr__"))) (ga : PySem.W.findIn K (.ref C) "__getattribute__" = some (some (.builtin "BaseException.__getattribute__"))) (gg : PySem.W.findIn K (.ref C) "__getattr__" = some none) (nb : PySem.W.findIn K (.ref C) "name" = some none)
    (aI : PySem.W.findIn K (.ref C) "__init__" = some (some (.ref fI))) (tI : PySem.W.typeIn K (.ref fI) = some (.type "function"))
    (lI : K.lookup fI = some ⟨ocI, odI, .func (PySem.W.fnOf "__init__" "NoPart.__init__" (defArgs s_npi) (defBody s_npi) (defScope s_npi) .none kVI dcI pmI anI cdI ctI), slI⟩) (cI : PySem.W.codeIn K cdI "NoPart.__init__" = true) (kI : PySem.W.keepIn K (.ref fI) = true)
    (kC : PySem.W.keepIn K (.ref C) = true) (eC : PySem.W.subIn K (.ref C) (.type "BaseException") = some true) (tC : PySem.W.typeIn K (.ref C) = some (.type "type")) (hC : PySem.W.hasDictIn K C = true) (iC : PySem.W.isClsIn K C = true) (sC : PySem.W.subIn K (.ref C) (.ref C) = some true)
    (vC : PySem.W.findCls K (.type "KeyError") (.type "type") "__init__" = some (.val (.builtin "KeyError.__init__"))) (caC : PySem.W.findIn K (.ref C) "__class__" = some (some (.builtin "object.__class__"))) (spC : PySem.W.specialIn K (.builtin "object.__class__") "__get__" = some (some (.builtin "getset_descriptor.__get__")))
    (tkC : PySem.W.takesIn K (.builtin "object.__class__") = some true) (mrC : PySem.W.mroIn K C (.type "object") = some true) (skC : PySem.W.subIn K (.ref C) (.type "KeyError") = some true)
    {nm2 q2 : Str} {Nn2 : Addr} {bs2 : List Value} {sn2 : List Str} {sub2 : List Value} {ab2 : Bool} {col2 : Option Bool} {dd2 : Option Addr} {mm02 mm12 mm22 mm32 mm52 : Option Value}
    {odI2 anI2 : Option Addr} {slI2 : Array (Option Value)} {ocI2 kVI2 dcI2 pmI2 cdI2 ctI2 : Value}
    (aC2 : PySem.W.nsIn K mainGlobals "NoRow" = some (some (.ref C2)))
    (xL2 : K.lookup C2 = some (excClassObj nm2 q2 C2 Nn2 bs2 ieTail true sn2 sub2 ab2 col2 dd2 mm02 mm12 mm22 mm32 mm52 "IndexError.__new__"))
    (sa2 : PySem.W.findIn K (.ref C2) "__setattr__" = some (some (.builtin "object.__setattr__"))) (ga2 : PySem.W.findIn K (.ref C2) "__getattribute__" = some (some (.builtin "BaseException.__getattribute__"))) (gg2 : PySem.W.findIn K (.ref C2) "__getattr__" = some none) (nb2 : PySem.W.findIn K (.ref C2) "row" = some none)
    (aI2 : PySem.W.findIn K (.ref C2) "__init__" = some (some (.ref fI2))) (tI2 : PySem.W.typeIn K (.ref fI2) = some (.type "function"))
    (lI2 : K.lookup fI2 = some ⟨ocI2, odI2, .func (PySem.W.fnOf "__init__" "NoRow.__init__" (defArgs s_nri) (defBody s_nri) (defScope s_nri) .none kVI2 dcI2 pmI2 anI2 cdI2 ctI2), slI2⟩) (cI2 : PySem.W.codeIn K cdI2 "NoRow.__init__" = true) (kI2 : PySem.W.keepIn K (.ref fI2) = true)
    (kC2 : PySem.W.keepIn K (.ref C2) = true) (eC2 : PySem.W.subIn K (.ref C2) (.type "BaseException") = some true) (tC2 : PySem.W.typeIn K (.ref C2) = some (.type "type")) (hC2 : PySem.W.hasDictIn K C2 = true) (iC2 : PySem.W.isClsIn K C2 = true) (sC2 : PySem.W.subIn K (.ref C2) (.ref C2) = some true)
    (vC2 : PySem.W.findCls K (.type "IndexError") (.type "type") "__init__" = some (.val (.builtin "IndexError.__init__"))) (caC2 : PySem.W.findIn K (.ref C2) "__class__" = some (some (.builtin "object.__class__"))) (spC2 : PySem.W.specialIn K (.builtin "object.__class__") "__get__" = some (some (.builtin "getset_descriptor.__get__")))
    (tkC2 : PySem.W.takesIn K (.builtin "object.__class__") = some true) (mrC2 : PySem.W.mroIn K C2 (.type "object") = some true) (skC2 : PySem.W.subIn K (.ref C2) (.type "IndexError") = some true)
    (e0 : PySem.W.nsIn K mainGlobals "NoProgram" = some (some (.ref d0)))
    (e3 : PySem.W.nsIn K mainGlobals "TooLong" = some (some (.ref d3)))
    (e4 : PySem.W.nsIn K mainGlobals "Unsound" = some (some (.ref d4)))
    (e5 : PySem.W.nsIn K mainGlobals "NoNumbers" = some (some (.ref d5)))
    (e6 : PySem.W.nsIn K mainGlobals "NoHook" = some (some (.ref d6)))
    (e7 : PySem.W.nsIn K mainGlobals "TooMany" = some (some (.ref d7)))
    (e8 : PySem.W.nsIn K mainGlobals "Busy" = some (some (.ref d8)))
    (e9 : PySem.W.nsIn K mainGlobals "NoText" = some (some (.ref d9)))
    (e10 : PySem.W.nsIn K mainGlobals "NoWord" = some (some (.ref d10)))
    (e11 : PySem.W.nsIn K mainGlobals "NoMark" = some (some (.ref d11)))
    (o1_0 : PySem.W.kitOne K (.ref C) (.ref d0) = some false)
    (o1_2 : PySem.W.kitOne K (.ref C) (.ref C2) = some false)
    (o1_3 : PySem.W.kitOne K (.ref C) (.ref d3) = some false)
    (o1_4 : PySem.W.kitOne K (.ref C) (.ref d4) = some false)
    (o1_5 : PySem.W.kitOne K (.ref C) (.ref d5) = some false)
    (o1_6 : PySem.W.kitOne K (.ref C) (.ref d6) = some false)
    (o1_7 : PySem.W.kitOne K (.ref C) (.ref d7) = some false)
    (o1_8 : PySem.W.kitOne K (.ref C) (.ref d8) = some false)
    (o1_9 : PySem.W.kitOne K (.ref C) (.ref d9) = some false)
    (o1_10 : PySem.W.kitOne K (.ref C) (.ref d10) = some false)
    (o1_11 : PySem.W.kitOne K (.ref C) (.ref d11) = some false)
    (u1_ValueError : PySem.W.kitOne K (.ref C) (.type "ValueError") = some false)
    (u1_KeyError : PySem.W.kitOne K (.ref C) (.type "KeyError") = some true)
    (u1_IndexError : PySem.W.kitOne K (.ref C) (.type "IndexError") = some false)
    (u1_OverflowError : PySem.W.kitOne K (.ref C) (.type "OverflowError") = some false)
    (u1_LookupError : PySem.W.kitOne K (.ref C) (.type "LookupError") = some true)
    (u1_RuntimeError : PySem.W.kitOne K (.ref C) (.type "RuntimeError") = some false)
    (oo1 : PySem.W.kitOne K (.ref C) (.ref C) = some true)
    (o2_0 : PySem.W.kitOne K (.ref C2) (.ref d0) = some false)
    (o2_1 : PySem.W.kitOne K (.ref C2) (.ref C) = some false)
    (o2_3 : PySem.W.kitOne K (.ref C2) (.ref d3) = some false)
    (o2_4 : PySem.W.kitOne K (.ref C2) (.ref d4) = some false)
    (o2_5 : PySem.W.kitOne K (.ref C2) (.ref d5) = some false)
    (o2_6 : PySem.W.kitOne K (.ref C2) (.ref d6) = some false)
    (o2_7 : PySem.W.kitOne K (.ref C2) (.ref d7) = some false)
    (o2_8 : PySem.W.kitOne K (.ref C2) (.ref d8) = some false)
    (o2_9 : PySem.W.kitOne K (.ref C2) (.ref d9) = some false)
    (o2_10 : PySem.W.kitOne K (.ref C2) (.ref d10) = some false)
    (o2_11 : PySem.W.kitOne K (.ref C2) (.ref d11) = some false)
    (u2_ValueError : PySem.W.kitOne K (.ref C2) (.type "ValueError") = some false)
    (u2_KeyError : PySem.W.kitOne K (.ref C2) (.type "KeyError") = some false)
    (u2_IndexError : PySem.W.kitOne K (.ref C2) (.type "IndexError") = some true)
    (u2_OverflowError : PySem.W.kitOne K (.ref C2) (.type "OverflowError") = some false)
    (u2_LookupError : PySem.W.kitOne K (.ref C2) (.type "LookupError") = some true)
    (u2_RuntimeError : PySem.W.kitOne K (.ref C2) (.type "RuntimeError") = some false)
    (oo2 : PySem.W.kitOne K (.ref C2) (.ref C2) = some true)
    (s21 : PySem.W.subIn K (.ref C2) (.ref C) = some false)
    {od1 an1 : Option Addr} {sl1 : Array (Option Value)} {oc1 kV1 dc1 pm1 cd1 ct1 : Value}
    (a1 : PySem.W.nsIn K mainGlobals "is_whole" = some (some (.ref f1))) (l1 : K.lookup f1 = some ⟨oc1, od1, .func (PySem.W.fnOf "is_whole" "is_whole" (defArgs s_is_whole) (defBody s_is_whole) (defScope s_is_whole) .none kV1 dc1 pm1 an1 cd1 ct1), sl1⟩) (c1 : PySem.W.codeIn K cd1 "is_whole" = true) (k1 : PySem.W.keepIn K (.ref f1) = true)
    {od2 an2 : Option Addr} {sl2 : Array (Option Value)} {oc2 kV2 dc2 pm2 cd2 ct2 : Value}
    (a2 : PySem.W.nsIn K mainGlobals "is_worth" = some (some (.ref f2))) (l2 : K.lookup f2 = some ⟨oc2, od2, .func (PySem.W.fnOf "is_worth" "is_worth" (defArgs s_is_worth) (defBody s_is_worth) (defScope s_is_worth) .none kV2 dc2 pm2 an2 cd2 ct2), sl2⟩) (c2 : PySem.W.codeIn K cd2 "is_worth" = true) (k2 : PySem.W.keepIn K (.ref f2) = true)
    {od3 an3 : Option Addr} {sl3 : Array (Option Value)} {oc3 kV3 dc3 pm3 cd3 ct3 : Value}
    (a3 : PySem.W.nsIn K mainGlobals "is_index" = some (some (.ref f3))) (l3 : K.lookup f3 = some ⟨oc3, od3, .func (PySem.W.fnOf "is_index" "is_index" (defArgs s_is_index) (defBody s_is_index) (defScope s_is_index) .none kV3 dc3 pm3 an3 cd3 ct3), sl3⟩) (c3 : PySem.W.codeIn K cd3 "is_index" = true) (k3 : PySem.W.keepIn K (.ref f3) = true)
    {od4 an4 : Option Addr} {sl4 : Array (Option Value)} {oc4 kV4 dc4 pm4 cd4 ct4 : Value}
    (a4 : PySem.W.nsIn K mainGlobals "is_name" = some (some (.ref f4))) (l4 : K.lookup f4 = some ⟨oc4, od4, .func (PySem.W.fnOf "is_name" "is_name" (defArgs s_is_name) (defBody s_is_name) (defScope s_is_name) .none kV4 dc4 pm4 an4 cd4 ct4), sl4⟩) (c4 : PySem.W.codeIn K cd4 "is_name" = true) (k4 : PySem.W.keepIn K (.ref f4) = true)
    {od5 an5 : Option Addr} {sl5 : Array (Option Value)} {oc5 kV5 dc5 pm5 cd5 ct5 : Value}
    (a5 : PySem.W.nsIn K mainGlobals "are_names" = some (some (.ref f5))) (l5 : K.lookup f5 = some ⟨oc5, od5, .func (PySem.W.fnOf "are_names" "are_names" (defArgs s_are_names) (defBody s_are_names) (defScope s_are_names) .none kV5 dc5 pm5 an5 cd5 ct5), sl5⟩) (c5 : PySem.W.codeIn K cd5 "are_names" = true) (k5 : PySem.W.keepIn K (.ref f5) = true)
    {od6 an6 : Option Addr} {sl6 : Array (Option Value)} {oc6 kV6 dc6 pm6 cd6 ct6 : Value}
    (a6 : PySem.W.nsIn K mainGlobals "are_unlike" = some (some (.ref f6))) (l6 : K.lookup f6 = some ⟨oc6, od6, .func (PySem.W.fnOf "are_unlike" "are_unlike" (defArgs s_are_unlike) (defBody s_are_unlike) (defScope s_are_unlike) .none kV6 dc6 pm6 an6 cd6 ct6), sl6⟩) (c6 : PySem.W.codeIn K cd6 "are_unlike" = true) (k6 : PySem.W.keepIn K (.ref f6) = true)
    {od7 an7 : Option Addr} {sl7 : Array (Option Value)} {oc7 kV7 dc7 pm7 cd7 ct7 : Value}
    (a7 : PySem.W.nsIn K mainGlobals "is_headed" = some (some (.ref f7))) (l7 : K.lookup f7 = some ⟨oc7, od7, .func (PySem.W.fnOf "is_headed" "is_headed" (defArgs s_is_headed) (defBody s_is_headed) (defScope s_is_headed) .none kV7 dc7 pm7 an7 cd7 ct7), sl7⟩) (c7 : PySem.W.codeIn K cd7 "is_headed" = true) (k7 : PySem.W.keepIn K (.ref f7) = true)
    {od8 an8 : Option Addr} {sl8 : Array (Option Value)} {oc8 kV8 dc8 pm8 cd8 ct8 : Value}
    (a8 : PySem.W.nsIn K mainGlobals "are_headed" = some (some (.ref f8))) (l8 : K.lookup f8 = some ⟨oc8, od8, .func (PySem.W.fnOf "are_headed" "are_headed" (defArgs s_are_headed) (defBody s_are_headed) (defScope s_are_headed) .none kV8 dc8 pm8 an8 cd8 ct8), sl8⟩) (c8 : PySem.W.codeIn K cd8 "are_headed" = true) (k8 : PySem.W.keepIn K (.ref f8) = true)
    {od9 an9 : Option Addr} {sl9 : Array (Option Value)} {oc9 kV9 dc9 pm9 cd9 ct9 : Value}
    (a9 : PySem.W.nsIn K mainGlobals "own_copy" = some (some (.ref f9))) (l9 : K.lookup f9 = some ⟨oc9, od9, .func (PySem.W.fnOf "own_copy" "own_copy" (defArgs s_copy) (defBody s_copy) (defScope s_copy) .none kV9 dc9 pm9 an9 cd9 ct9), sl9⟩) (c9 : PySem.W.codeIn K cd9 "own_copy" = true) (k9 : PySem.W.keepIn K (.ref f9) = true)
    {od10 an10 : Option Addr} {sl10 : Array (Option Value)} {oc10 kV10 dc10 pm10 cd10 ct10 : Value}
    (a10 : PySem.W.nsIn K mainGlobals "is_program" = some (some (.ref f10))) (l10 : K.lookup f10 = some ⟨oc10, od10, .func (PySem.W.fnOf "is_program" "is_program" (defArgs s_is_program) (defBody s_is_program) (defScope s_is_program) .none kV10 dc10 pm10 an10 cd10 ct10), sl10⟩) (c10 : PySem.W.codeIn K cd10 "is_program" = true) (k10 : PySem.W.keepIn K (.ref f10) = true)
    {od11 an11 : Option Addr} {sl11 : Array (Option Value)} {oc11 kV11 dc11 pm11 cd11 ct11 : Value}
    (a11 : PySem.W.nsIn K mainGlobals "are_rows" = some (some (.ref f11))) (l11 : K.lookup f11 = some ⟨oc11, od11, .func (PySem.W.fnOf "are_rows" "are_rows" (defArgs s_are_rows) (defBody s_are_rows) (defScope s_are_rows) .none kV11 dc11 pm11 an11 cd11 ct11), sl11⟩) (c11 : PySem.W.codeIn K cd11 "are_rows" = true) (k11 : PySem.W.keepIn K (.ref f11) = true)
    {od12 an12 : Option Addr} {sl12 : Array (Option Value)} {oc12 kV12 dc12 pm12 cd12 ct12 : Value}
    (a12 : PySem.W.nsIn K mainGlobals "is_row" = some (some (.ref f12))) (l12 : K.lookup f12 = some ⟨oc12, od12, .func (PySem.W.fnOf "is_row" "is_row" (defArgs s_is_row) (defBody s_is_row) (defScope s_is_row) .none kV12 dc12 pm12 an12 cd12 ct12), sl12⟩) (c12 : PySem.W.codeIn K cd12 "is_row" = true) (k12 : PySem.W.keepIn K (.ref f12) = true)
    {od13 an13 : Option Addr} {sl13 : Array (Option Value)} {oc13 kV13 dc13 pm13 cd13 ct13 : Value}
    (a13 : PySem.W.nsIn K mainGlobals "check_program" = some (some (.ref f13))) (l13 : K.lookup f13 = some ⟨oc13, od13, .func (PySem.W.fnOf "check_program" "check_program" (defArgs s_check) (defBody s_check) (defScope s_check) .none kV13 dc13 pm13 an13 cd13 ct13), sl13⟩) (c13 : PySem.W.codeIn K cd13 "check_program" = true) (k13 : PySem.W.keepIn K (.ref f13) = true)
    {od14 an14 : Option Addr} {sl14 : Array (Option Value)} {oc14 kV14 dc14 pm14 cd14 ct14 : Value}
    (a14 : PySem.W.nsIn K mainGlobals "place_of" = some (some (.ref f14))) (l14 : K.lookup f14 = some ⟨oc14, od14, .func (PySem.W.fnOf "place_of" "place_of" (defArgs s_place) (defBody s_place) (defScope s_place) .none kV14 dc14 pm14 an14 cd14 ct14), sl14⟩) (c14 : PySem.W.codeIn K cd14 "place_of" = true) (k14 : PySem.W.keepIn K (.ref f14) = true)
    {od15 an15 : Option Addr} {sl15 : Array (Option Value)} {oc15 kV15 dc15 pm15 cd15 ct15 : Value}
    (a15 : PySem.W.nsIn K mainGlobals "rows_of" = some (some (.ref f15))) (l15 : K.lookup f15 = some ⟨oc15, od15, .func (PySem.W.fnOf "rows_of" "rows_of" (defArgs s_rows) (defBody s_rows) (defScope s_rows) .none kV15 dc15 pm15 an15 cd15 ct15), sl15⟩) (c15 : PySem.W.codeIn K cd15 "rows_of" = true) (k15 : PySem.W.keepIn K (.ref f15) = true)
    {od16 an16 : Option Addr} {sl16 : Array (Option Value)} {oc16 kV16 dc16 pm16 cd16 ct16 : Value}
    (a16 : PySem.W.nsIn K mainGlobals "part_number" = some (some (.ref f16))) (l16 : K.lookup f16 = some ⟨oc16, od16, .func (PySem.W.fnOf "part_number" "part_number" (defArgs s_pn) (defBody s_pn) (defScope s_pn) .none kV16 dc16 pm16 an16 cd16 ct16), sl16⟩) (c16 : PySem.W.codeIn K cd16 "part_number" = true) (k16 : PySem.W.keepIn K (.ref f16) = true)
    {od17 an17 : Option Addr} {sl17 : Array (Option Value)} {oc17 kV17 dc17 pm17 cd17 ct17 : Value}
    (a17 : PySem.W.nsIn K mainGlobals "row_at" = some (some (.ref f17))) (l17 : K.lookup f17 = some ⟨oc17, od17, .func (PySem.W.fnOf "row_at" "row_at" (defArgs s_ra) (defBody s_ra) (defScope s_ra) .none kV17 dc17 pm17 an17 cd17 ct17), sl17⟩) (c17 : PySem.W.codeIn K cd17 "row_at" = true) (k17 : PySem.W.keepIn K (.ref f17) = true)
    {od18 an18 : Option Addr} {sl18 : Array (Option Value)} {oc18 kV18 dc18 pm18 cd18 ct18 : Value}
    (a18 : PySem.W.nsIn K mainGlobals "check_row" = some (some (.ref f18))) (l18 : K.lookup f18 = some ⟨oc18, od18, .func (PySem.W.fnOf "check_row" "check_row" (defArgs s_cr) (defBody s_cr) (defScope s_cr) .none kV18 dc18 pm18 an18 cd18 ct18), sl18⟩) (c18 : PySem.W.codeIn K cd18 "check_row" = true) (k18 : PySem.W.keepIn K (.ref f18) = true)
    {od19 an19 : Option Addr} {sl19 : Array (Option Value)} {oc19 kV19 dc19 pm19 cd19 ct19 : Value}
    (a19 : PySem.W.nsIn K mainGlobals "_law_bag" = some (some (.ref f19))) (l19 : K.lookup f19 = some ⟨oc19, od19, .func (PySem.W.fnOf "_law_bag" "_law_bag" (defArgs s_bag) (defBody s_bag) (defScope s_bag) .none kV19 dc19 pm19 an19 cd19 ct19), sl19⟩) (c19 : PySem.W.codeIn K cd19 "_law_bag" = true) (k19 : PySem.W.keepIn K (.ref f19) = true)
    {od20 an20 : Option Addr} {sl20 : Array (Option Value)} {oc20 kV20 dc20 pm20 cd20 ct20 : Value}
    (a20 : PySem.W.nsIn K mainGlobals "_law_take" = some (some (.ref f20))) (l20 : K.lookup f20 = some ⟨oc20, od20, .func (PySem.W.fnOf "_law_take" "_law_take" (defArgs s_take) (defBody s_take) (defScope s_take) .none kV20 dc20 pm20 an20 cd20 ct20), sl20⟩) (c20 : PySem.W.codeIn K cd20 "_law_take" = true) (k20 : PySem.W.keepIn K (.ref f20) = true)
    {od21 an21 : Option Addr} {sl21 : Array (Option Value)} {oc21 kV21 dc21 pm21 cd21 ct21 : Value}
    (a21 : PySem.W.nsIn K mainGlobals "_law_worth" = some (some (.ref f21))) (l21 : K.lookup f21 = some ⟨oc21, od21, .func (PySem.W.fnOf "_law_worth" "_law_worth" (defArgs s_worth2) (defBody s_worth2) (defScope s_worth2) .none kV21 dc21 pm21 an21 cd21 ct21), sl21⟩) (c21 : PySem.W.codeIn K cd21 "_law_worth" = true) (k21 : PySem.W.keepIn K (.ref f21) = true)
    {od22 an22 : Option Addr} {sl22 : Array (Option Value)} {oc22 kV22 dc22 pm22 cd22 ct22 : Value}
    (a22 : PySem.W.nsIn K mainGlobals "_law_names" = some (some (.ref f22))) (l22 : K.lookup f22 = some ⟨oc22, od22, .func (PySem.W.fnOf "_law_names" "_law_names" (defArgs s_names2) (defBody s_names2) (defScope s_names2) .none kV22 dc22 pm22 an22 cd22 ct22), sl22⟩) (c22 : PySem.W.codeIn K cd22 "_law_names" = true) (k22 : PySem.W.keepIn K (.ref f22) = true)
    {od23 an23 : Option Addr} {sl23 : Array (Option Value)} {oc23 kV23 dc23 pm23 cd23 ct23 : Value}
    (a23 : PySem.W.nsIn K mainGlobals "_law_any_row" = some (some (.ref f23))) (l23 : K.lookup f23 = some ⟨oc23, od23, .func (PySem.W.fnOf "_law_any_row" "_law_any_row" (defArgs s_row3) (defBody s_row3) (defScope s_row3) .none kV23 dc23 pm23 an23 cd23 ct23), sl23⟩) (c23 : PySem.W.codeIn K cd23 "_law_any_row" = true) (k23 : PySem.W.keepIn K (.ref f23) = true)
    {od24 an24 : Option Addr} {sl24 : Array (Option Value)} {oc24 kV24 dc24 pm24 cd24 ct24 : Value}
    (a24 : PySem.W.nsIn K mainGlobals "_law_any_program" = some (some (.ref f24))) (l24 : K.lookup f24 = some ⟨oc24, od24, .func (PySem.W.fnOf "_law_any_program" "_law_any_program" (defArgs s_prog3) (defBody s_prog3) (defScope s_prog3) .none kV24 dc24 pm24 an24 cd24 ct24), sl24⟩) (c24 : PySem.W.codeIn K cd24 "_law_any_program" = true) (k24 : PySem.W.keepIn K (.ref f24) = true)
    {od25 an25 : Option Addr} {sl25 : Array (Option Value)} {oc25 kV25 dc25 pm25 cd25 ct25 : Value}
    (a25 : PySem.W.nsIn K mainGlobals "_law_kind" = some (some (.ref f25))) (l25 : K.lookup f25 = some ⟨oc25, od25, .func (PySem.W.fnOf "_law_kind" "_law_kind" (defArgs s_ki) (defBody s_ki) (defScope s_ki) .none kV25 dc25 pm25 an25 cd25 ct25), sl25⟩) (c25 : PySem.W.codeIn K cd25 "_law_kind" = true) (k25 : PySem.W.keepIn K (.ref f25) = true)
    {od26 an26 : Option Addr} {sl26 : Array (Option Value)} {oc26 kV26 dc26 pm26 cd26 ct26 : Value}
    (a26 : PySem.W.nsIn K mainGlobals "_law_odd" = some (some (.ref f26))) (l26 : K.lookup f26 = some ⟨oc26, od26, .func (PySem.W.fnOf "_law_odd" "_law_odd" (defArgs s_od) (defBody s_od) (defScope s_od) .none kV26 dc26 pm26 an26 cd26 ct26), sl26⟩) (c26 : PySem.W.codeIn K cd26 "_law_odd" = true) (k26 : PySem.W.keepIn K (.ref f26) = true)
    {od27 an27 : Option Addr} {sl27 : Array (Option Value)} {oc27 kV27 dc27 pm27 cd27 ct27 : Value}
    (a27 : PySem.W.nsIn K mainGlobals "_law_told" = some (some (.ref f27))) (l27 : K.lookup f27 = some ⟨oc27, od27, .func (PySem.W.fnOf "_law_told" "_law_told" (defArgs s_to) (defBody s_to) (defScope s_to) .none kV27 dc27 pm27 an27 cd27 ct27), sl27⟩) (c27 : PySem.W.codeIn K cd27 "_law_told" = true) (k27 : PySem.W.keepIn K (.ref f27) = true)
    {od28 an28 : Option Addr} {sl28 : Array (Option Value)} {oc28 kV28 dc28 pm28 cd28 ct28 : Value}
    (a28 : PySem.W.nsIn K mainGlobals "_law_alike" = some (some (.ref f28))) (l28 : K.lookup f28 = some ⟨oc28, od28, .func (PySem.W.fnOf "_law_alike" "_law_alike" (defArgs s_al) (defBody s_al) (defScope s_al) .none kV28 dc28 pm28 an28 cd28 ct28), sl28⟩) (c28 : PySem.W.codeIn K cd28 "_law_alike" = true) (k28 : PySem.W.keepIn K (.ref f28) = true)
    {od29 an29 : Option Addr} {sl29 : Array (Option Value)} {oc29 kV29 dc29 pm29 cd29 ct29 : Value}
    (a29 : PySem.W.nsIn K mainGlobals "_law_due" = some (some (.ref f29))) (l29 : K.lookup f29 = some ⟨oc29, od29, .func (PySem.W.fnOf "_law_due" "_law_due" (defArgs s_du) (defBody s_du) (defScope s_du) .none kV29 dc29 pm29 an29 cd29 ct29), sl29⟩) (c29 : PySem.W.codeIn K cd29 "_law_due" = true) (k29 : PySem.W.keepIn K (.ref f29) = true)
    {od30 an30 : Option Addr} {sl30 : Array (Option Value)} {oc30 kV30 dc30 pm30 cd30 ct30 : Value}
    (a30 : PySem.W.nsIn K mainGlobals "law" = some (some (.ref f30))) (l30 : K.lookup f30 = some ⟨oc30, od30, .func (PySem.W.fnOf "law" "law" (defArgs s_law) (defBody s_law) (defScope s_law) .none kV30 dc30 pm30 an30 cd30 ct30), sl30⟩) (c30 : PySem.W.codeIn K cd30 "law" = true) (k30 : PySem.W.keepIn K (.ref f30) = true)
    {t1 : Tok} (m1 : PySem.W.nsIn K mainGlobals "MOST_WORTH" = some (some (.int 1000000000000 t1)))
    {t2 : Tok} (m2 : PySem.W.nsIn K mainGlobals "MOST_LETTERS" = some (some (.int 8 t2)))
    {t3 : Tok} (m3 : PySem.W.nsIn K mainGlobals "MOST_NAMES" = some (some (.int 3 t3)))
    {t4 : Tok} (m4 : PySem.W.nsIn K mainGlobals "MOST_PART_ROWS" = some (some (.int 60 t4)))
    {t5 : Tok} (m5 : PySem.W.nsIn K mainGlobals "MOST_PARTS" = some (some (.int 8 t5)))
    {tN0 tN1 tN2 tN3 : Tok} {nN : Nat} (wN : PySem.W.nsIn K mainGlobals "NAME_WORDS" = some (some (.ref aN))) (qN : K.lookup aN = some ⟨.type "tuple", none, .seq (#[.str "get" tN0, .str "set" tN1, .str "look" tN2, .str "change" tN3]) nN, #[]⟩)
    {tR0 tR1 tR2 : Tok} {nR : Nat} (wR : PySem.W.nsIn K mainGlobals "ROW_WORDS" = some (some (.ref aR))) (qR : K.lookup aR = some ⟨.type "tuple", none, .seq (#[.str "go" tR0, .str "if" tR1, .str "try" tR2]) nR, #[]⟩)
    {tL0 tL1 tL2 tL3 tL4 tL5 tL6 tL7 tL8 tL9 tL10 tL11 tL12 tL13 tL14 : Tok} {nL : Nat} (wL : PySem.W.nsIn K mainGlobals "LONE_WORDS" = some (some (.ref aL))) (qL : K.lookup aL = some ⟨.type "tuple", none, .seq (#[.str "add" tL0, .str "less" tL1, .str "times" tL2, .str "over" tL3, .str "same" tL4, .str "below" tL5, .str "twin" tL6, .str "swap" tL7, .str "away" tL8, .str "say" tL9, .str "back" tL10, .str "throw" tL11, .str "done" tL12, .str "lead" tL13, .str "turn" tL14]) nL, #[]⟩)
    (z1 : PySem.W.nsIn K mainGlobals "isinstance" = some none)
    (z2 : PySem.W.nsIn K mainGlobals "len" = some none)
    (z3 : PySem.W.nsIn K mainGlobals "all" = some none)
    (z4 : PySem.W.nsIn K mainGlobals "enumerate" = some none)
    (z5 : PySem.W.nsIn K mainGlobals "set" = some none)
    (z6 : PySem.W.nsIn K mainGlobals "int" = some none)
    (z7 : PySem.W.nsIn K mainGlobals "bool" = some none)
    (z8 : PySem.W.nsIn K mainGlobals "str" = some none)
    (z9 : PySem.W.nsIn K mainGlobals "tuple" = some none)
    (z10 : PySem.W.nsIn K mainGlobals "list" = some none)
    (z11 : PySem.W.nsIn K mainGlobals "range" = some none)
    (z12 : PySem.W.nsIn K mainGlobals "abs" = some none)
    (z13 : PySem.W.nsIn K mainGlobals "max" = some none)
    (z14 : PySem.W.nsIn K mainGlobals "min" = some none)
    (z15 : PySem.W.nsIn K mainGlobals "repr" = some none)
    (z16 : PySem.W.nsIn K mainGlobals "sorted" = some none)
    (yValueError : PySem.W.nsIn K mainGlobals "ValueError" = some none)
    (yKeyError : PySem.W.nsIn K mainGlobals "KeyError" = some none)
    (yIndexError : PySem.W.nsIn K mainGlobals "IndexError" = some none)
    (yOverflowError : PySem.W.nsIn K mainGlobals "OverflowError" = some none)
    (yLookupError : PySem.W.nsIn K mainGlobals "LookupError" = some none)
    (yRuntimeError : PySem.W.nsIn K mainGlobals "RuntimeError" = some none)
    : ∃ fd : FuncData, (∀ (s : Shared) (v : Value), BindsTo s fd ⟨[v], []⟩ [("_law_script", v)]) ∧ ∀ base : Heap, K.In base → base.Ns mainGlobals mg → FnG l.prog w K mg base 9 fa fd ["_law_script"] (spLaw K) := by
  have e := hfa.symm.trans (PySem.W.mg_of X G a30)
  cases e
  have D1 := def_mk (st := s_is_whole) (ps := ["thing"]) X G a1 l1 c1 k1 fun _ _ _ _ _ _ us hl => match us, hl with | [_], _ => rfl
  have D2 := def_mk (st := s_is_worth) (ps := ["thing"]) X G a2 l2 c2 k2 fun _ _ _ _ _ _ us hl => match us, hl with | [_], _ => rfl
  have D3 := def_mk (st := s_is_index) (ps := ["thing", "many"]) X G a3 l3 c3 k3 fun _ _ _ _ _ _ us hl => match us, hl with | [_, _], _ => rfl
  have D4 := def_mk (st := s_is_name) (ps := ["thing"]) X G a4 l4 c4 k4 fun _ _ _ _ _ _ us hl => match us, hl with | [_], _ => rfl
  have D5 := def_mk (st := s_are_names) (ps := ["thing"]) X G a5 l5 c5 k5 fun _ _ _ _ _ _ us hl => match us, hl with | [_], _ => rfl
  have D6 := def_mk (st := s_are_unlike) (ps := ["names"]) X G a6 l6 c6 k6 fun _ _ _ _ _ _ us hl => match us, hl with | [_], _ => rfl
  have D7 := def_mk (st := s_is_headed) (ps := ["thing"]) X G a7 l7 c7 k7 fun _ _ _ _ _ _ us hl => match us, hl with | [_], _ => rfl
  have D8 := def_mk (st := s_are_headed) (ps := ["thing", "most"]) X G a8 l8 c8 k8 fun _ _ _ _ _ _ us hl => match us, hl with | [_, _], _ => rfl
  have D9 := def_mk (st := s_copy) (ps := ["thing"]) X G a9 l9 c9 k9 fun _ _ _ _ _ _ us hl => match us, hl with | [_], _ => rfl
  have D10 := def_mk (st := s_is_program) (ps := ["thing"]) X G a10 l10 c10 k10 fun _ _ _ _ _ _ us hl => match us, hl with | [_], _ => rfl
  have D11 := def_mk (st := s_are_rows) (ps := ["thing", "called"]) X G a11 l11 c11 k11 fun _ _ _ _ _ _ us hl => match us, hl with | [_, _], _ => rfl
  have D12 := def_mk (st := s_is_row) (ps := ["thing", "at", "many", "called"]) X G a12 l12 c12 k12 fun _ _ _ _ _ _ us hl => match us, hl with | [_, _, _, _], _ => rfl
  have D13 := def_mk (st := s_check) (ps := ["thing"]) X G a13 l13 c13 k13 fun _ _ _ _ _ _ us hl => match us, hl with | [_], _ => rfl
  have D14 := def_mk (st := s_place) (ps := ["program", "part"]) X G a14 l14 c14 k14 fun _ _ _ _ _ _ us hl => match us, hl with | [_, _], _ => rfl
  have D15 := def_mk (st := s_rows) (ps := ["program", "part"]) X G a15 l15 c15 k15 fun _ _ _ _ _ _ us hl => match us, hl with | [_, _], _ => rfl
  have D16 := def_mk (st := s_pn) (ps := ["program", "part"]) X G a16 l16 c16 k16 fun _ _ _ _ _ _ us hl => match us, hl with | [_, _], _ => rfl
  have D17 := def_mk (st := s_ra) (ps := ["program", "part", "row"]) X G a17 l17 c17 k17 fun _ _ _ _ _ _ us hl => match us, hl with | [_, _, _], _ => rfl
  have D18 := def_mk (st := s_cr) (ps := ["rows", "thing"]) X G a18 l18 c18 k18 fun _ _ _ _ _ _ us hl => match us, hl with | [_, _], _ => rfl
  have D19 := def_mk (st := s_bag) (ps := ["_law_script", "_law_at"]) X G a19 l19 c19 k19 fun _ _ _ _ _ _ us hl => match us, hl with | [_, _], _ => rfl
  have D20 := def_mk (st := s_take) (ps := ["_law_bag_here", "_law_many"]) X G a20 l20 c20 k20 fun _ _ _ _ _ _ us hl => match us, hl with | [_, _], _ => rfl
  have D21 := def_mk (st := s_worth2) (ps := ["_law_bag_here"]) X G a21 l21 c21 k21 fun _ _ _ _ _ _ us hl => match us, hl with | [_], _ => rfl
  have D22 := def_mk (st := s_names2) (ps := ["_law_bag_here", "_law_many"]) X G a22 l22 c22 k22 fun _ _ _ _ _ _ us hl => match us, hl with | [_, _], _ => rfl
  have D23 := def_mk (st := s_row3) (ps := ["_law_bag_here", "_law_at", "_law_many", "_law_called", "_law_names_here"]) X G a23 l23 c23 k23 fun _ _ _ _ _ _ us hl => match us, hl with | [_, _, _, _, _], _ => rfl
  have D24 := def_mk (st := s_prog3) (ps := ["_law_bag_here"]) X G a24 l24 c24 k24 fun _ _ _ _ _ _ us hl => match us, hl with | [_], _ => rfl
  have D25 := def_mk (st := s_ki) (ps := ["_law_e"]) X G a25 l25 c25 k25 fun _ _ _ _ _ _ us hl => match us, hl with | [_], _ => rfl
  have D26 := def_mk (st := s_od) (ps := ["_law_bag_here"]) X G a26 l26 c26 k26 fun _ _ _ _ _ _ us hl => match us, hl with | [_], _ => rfl
  have D27 := def_mk (st := s_to) (ps := ["_law_program", "_law_part", "_law_row"]) X G a27 l27 c27 k27 fun _ _ _ _ _ _ us hl => match us, hl with | [_, _, _], _ => rfl
  have D28 := def_mk (st := s_al) (ps := ["_law_one", "_law_other"]) X G a28 l28 c28 k28 fun _ _ _ _ _ _ us hl => match us, hl with | [_, _], _ => rfl
  have D29 := def_mk (st := s_du) (ps := ["_law_program", "_law_part", "_law_row"]) X G a29 l29 c29 k29 fun _ _ _ _ _ _ us hl => match us, hl with | [_, _, _], _ => rfl
  have D30 := def_mk (st := s_law) (ps := ["_law_script"]) X G a30 l30 c30 k30 fun _ _ _ _ _ _ us hl => match us, hl with | [_], _ => rfl
  have B : Blt mg := ⟨PySem.W.mg_none_of X G z1, PySem.W.mg_none_of X G z2, PySem.W.mg_none_of X G z3, PySem.W.mg_none_of X G z4, PySem.W.mg_none_of X G z5, PySem.W.mg_none_of X G z6, PySem.W.mg_none_of X G z7, PySem.W.mg_none_of X G z8, PySem.W.mg_none_of X G z9, PySem.W.mg_none_of X G z10, PySem.W.mg_none_of X G z11⟩
  have B2 : Blt2 mg := ⟨PySem.W.mg_none_of X G z12, PySem.W.mg_none_of X G z13, PySem.W.mg_none_of X G z14, PySem.W.mg_none_of X G z15⟩
  have B3 : Blt3 mg := ⟨PySem.W.mg_none_of X G z16⟩
  have Ws : Words K mg aN aR aL := ⟨PySem.W.mg_of X G wN, PySem.W.mg_of X G wR, PySem.W.mg_of X G wL, word_tup (its := [_, _, _, _]) qN (Nat.le_of_ble_eq_true rfl) (.cons ⟨_, rfl⟩ (.cons ⟨_, rfl⟩ (.cons ⟨_, rfl⟩ (.cons ⟨_, rfl⟩ .nil)))), word_tup (its := [_, _, _]) qR (Nat.le_of_ble_eq_true rfl) (.cons ⟨_, rfl⟩ (.cons ⟨_, rfl⟩ (.cons ⟨_, rfl⟩ .nil))), word_tup (its := [_, _, _, _, _, _, _, _, _, _, _, _, _, _, _]) qL (Nat.le_of_ble_eq_true rfl) (.cons ⟨_, rfl⟩ (.cons ⟨_, rfl⟩ (.cons ⟨_, rfl⟩ (.cons ⟨_, rfl⟩ (.cons ⟨_, rfl⟩ (.cons ⟨_, rfl⟩ (.cons ⟨_, rfl⟩ (.cons ⟨_, rfl⟩ (.cons ⟨_, rfl⟩ (.cons ⟨_, rfl⟩ (.cons ⟨_, rfl⟩ (.cons ⟨_, rfl⟩ (.cons ⟨_, rfl⟩ (.cons ⟨_, rfl⟩ (.cons ⟨_, rfl⟩ .nil)))))))))))))))⟩
  have M1 := PySem.W.mg_of X G m1
  have M2 := PySem.W.mg_of X G m2
  have M3 := PySem.W.mg_of X G m3
  have M4 := PySem.W.mg_of X G m4
  have M5 := PySem.W.mg_of X G m5
  have FI := fun_mk (st := s_npi) lI cI kI
  have TT : KeC K C := ⟨ke_tail, ⟨nm, q, Nn, bs, sn, sub, ab, col, dd, mm0, mm1, mm2, mm3, mm5, xL⟩, sa, eC, tC, kC⟩
  have T : NpC K mg C fI _ := ⟨TT, FI, FI.binds fun _ _ _ _ _ _ us hl => match us, hl with | [_, _], _ => rfl, PySem.W.mg_of X G aC, aI, tI, nb, vC, PySem.W.mg_none_of X G yKeyError⟩
  have XT : XfC K C := ⟨ga, gg, eC, hC⟩
  have IT : IsxC K C := ⟨iC, ga, gg, eC, caC, spC, tkC, mrC⟩
  have te := exm_self eC iC tC sC
  have FI2 := fun_mk (st := s_nri) lI2 cI2 kI2
  have TT2 : IeC K C2 := ⟨ie_tail, ⟨nm2, q2, Nn2, bs2, sn2, sub2, ab2, col2, dd2, mm02, mm12, mm22, mm32, mm52, xL2⟩, sa2, eC2, tC2, kC2⟩
  have T2 : NrC K mg C2 fI2 _ := ⟨TT2, FI2, FI2.binds fun _ _ _ _ _ _ us hl => match us, hl with | [_, _], _ => rfl, PySem.W.mg_of X G aC2, aI2, tI2, nb2, vC2, PySem.W.mg_none_of X G yIndexError⟩
  have XT2 : XfC K C2 := ⟨ga2, gg2, eC2, hC2⟩
  have IT2 : IsxC K C2 := ⟨iC2, ga2, gg2, eC2, caC2, spC2, tkC2, mrC2⟩
  have te2 := exm_self eC2 iC2 tC2 sC2
  have te0 := exm_other (S := C) (S2 := C2) eC iC tC s21
  have KM : KiM mg [d0, C, C2, d3, d4, d5, d6, d7, d8, d9, d10, d11] := ⟨PySem.W.mg_of X G e0, PySem.W.mg_of X G aC, PySem.W.mg_of X G aC2, PySem.W.mg_of X G e3, PySem.W.mg_of X G e4, PySem.W.mg_of X G e5, PySem.W.mg_of X G e6, PySem.W.mg_of X G e7, PySem.W.mg_of X G e8, PySem.W.mg_of X G e9, PySem.W.mg_of X G e10, PySem.W.mg_of X G e11, PySem.W.mg_none_of X G yValueError, PySem.W.mg_none_of X G yKeyError, PySem.W.mg_none_of X G yIndexError, PySem.W.mg_none_of X G yOverflowError, PySem.W.mg_none_of X G yLookupError, PySem.W.mg_none_of X G yRuntimeError⟩
  have KC1 : KiC K C [d0, C, C2, d3, d4, d5, d6, d7, d8, d9, d10, d11] 1 [false, true, false, false, false, false, true, false, false, false, false, true] := kic_mk (by decide) o1_0 oo1 o1_2 o1_3 o1_4 o1_5 o1_6 o1_7 o1_8 o1_9 o1_10 o1_11 u1_ValueError u1_KeyError u1_IndexError u1_OverflowError u1_ValueError u1_ValueError u1_LookupError u1_OverflowError u1_RuntimeError u1_ValueError u1_ValueError u1_KeyError rfl
  have KC2 : KiC K C2 [d0, C, C2, d3, d4, d5, d6, d7, d8, d9, d10, d11] 2 [false, false, true, false, false, false, true, false, false, false, false, false] := kic_mk (by decide) o2_0 o2_1 oo2 o2_3 o2_4 o2_5 o2_6 o2_7 o2_8 o2_9 o2_10 o2_11 u2_ValueError u2_KeyError u2_IndexError u2_OverflowError u2_ValueError u2_ValueError u2_LookupError u2_OverflowError u2_RuntimeError u2_ValueError u2_ValueError u2_KeyError rfl
  refine ⟨PySem.W.fnOf "law" "law" (defArgs s_law) (defBody s_law) (defScope s_law) .none kV30 dc30 pm30 an30 cd30 ct30, fun s v => .of_eq rfl, fun base _ _ => ?_⟩
  have g1 := ok_is_name (P := l.prog) (w := w) (base := base) D4 B M2
  have g2 := ok_are_names (P := l.prog) (w := w) (base := base) D5 D4 D6 B M2 M3
  have g3 := ok_is_headed D7 D4 g1 D5 g2 B
  have g4 := ok_are_headed D8 D7 g3 D6 B
  have g5 := ok_is_worth (P := l.prog) (w := w) (base := base) D2 D1 B M1
  have g6 := ok_is_index (P := l.prog) (w := w) (base := base) D3 D1 B
  have g7 := ok_is_row D12 D2 g5 D4 g1 D3 g6 B Ws
  have g8 := ok_are_rows D11 D12 g7 B M4
  have g9 := ok_is_program D10 D8 g4 D11 g8 B M5
  have gck := ok_check D13 D10 g9
  have gpl := ok_placeN (P := l.prog) (w := w) (base := base) D14 T D9 B
  have gro := ok_rowsof D15 D14 gpl
  have gpn := ok_pn D16 D13 gck D14 gpl
  have gcr := ok_cr T2 D9 D18 D3 g6 B
  have gra := ok_ra D17 D13 gck D15 gro D18 gcr
  have gki := ok_ki (P := l.prog) (w := w) (base := base) D25 KM B
  have gto := ok_to D27 D16 gpn D17 gra D25 gki T T2 XT XT2 KC1 KC2 IT IT2 te te0 te2
  have god := ok_od (P := l.prog) (w := w) (base := base) D26 D20
  have gdu := ok_du (P := l.prog) (w := w) (base := base) D29 B
  have gal := ok_al (P := l.prog) (w := w) (base := base) D28 B2
  have gbag := ok_bag (P := l.prog) (w := w) (base := base) D19 B B2
  have gpr := ok_prog3 (P := l.prog) (w := w) (base := base) D24 D20 D22 D23 D21 B
  exact ok_law D30 B B2 D19 gbag D24 gpr D26 god D27 gto D29 gdu D28 gal D20
theorem walkG {l : PySem.W.OpenLaw} {q : Program} {loose : List Str} {XP : (Str → Option Value) → Heap → Prop} {YP : World → Heap → Prop} {d : DefRec} {K : Params → PySem.W.Frag} (hn : l.most = some 63) (hdf : d.params.defaults = [])
    (hY : ∀ (w : World) (h : Heap), YP w h → (K w.params).In h)
    (F : ∀ (w : World) (mg : Str → Option Value) (fa : Addr) (h : Heap), (K w.params).In h → h.Ns mainGlobals mg → mg d.name = some (.ref fa) →
      ∃ fd : FuncData, (∀ (s : Shared) (u : Value), BindsTo s fd ⟨[u], []⟩ [("_law_script", u)]) ∧ ∀ base : Heap, (K w.params).In base → base.Ns mainGlobals mg → FnG l.prog w (K w.params) mg base 9 fa fd ["_law_script"] (spLaw (K w.params))) :
    PySem.W.WalkO q loose XP YP l.row.toRowW d [] (fun f vs => PySem.call f vs) :=
  Att.attach_call hn hdf fun w s₀ s₁ mg mb fa o pm cd doc a vs ns G Y ho hd hcd hmg hobj hints hlen hge => by
    have KX := hY w _ Y
    obtain ⟨fd, hb, hF⟩ := F w mg fa _ KX G.T.g hmg
    exact law_goG KX G.T.g G.T.b G.T.builtins G.T.nolimit hge hobj hints (Nat.le_trans hlen (by decide)) ⟨rfl, by decide, by decide⟩ hF hb fun H hS => ⟨a, ns, rfl, hS, by omega, fun _ => rfl⟩
end Wr

set_option Elab.async false
set_option linter.all false
open PySem PySem.W PyProof.Rows
set_option maxRecDepth 100000 in
set_option maxHeartbeats 0 in
theorem PySem.Challenge.cw_watchedrun_k03_parts_and_rows_holds : PySem.Challenge.rw_watchedrun_k03_parts_and_rows.Holds := by
  w_on; o_law; k_head; (case hw => w_witness2)
  k_fill
  refine Wr.walkG (l := PySem.Challenge.rw_watchedrun_k03_parts_and_rows) rfl rfl (fun w h Y => PySem.W.kIn_of Y) ?F
  case F =>
    intro w mg fa h KX G hmg
    refine' Wr.all_mk KX G hmg ?aC ?xL ?sa ?ga ?gg ?nb ?aI ?tI ?lI ?cI ?kI ?kC ?eC ?tC ?hC ?iC ?sC ?vC ?caC ?spC ?tkC ?mrC ?skC ?aC2 ?xL2 ?sa2 ?ga2 ?gg2 ?nb2 ?aI2 ?tI2 ?lI2 ?cI2 ?kI2 ?kC2 ?eC2 ?tC2 ?hC2 ?iC2 ?sC2 ?vC2 ?caC2 ?spC2 ?tkC2 ?mrC2 ?skC2 ?e0 ?e3 ?e4 ?e5 ?e6 ?e7 ?e8 ?e9 ?e10 ?e11 ?o1_0 ?o1_2 ?o1_3 ?o1_4 ?o1_5 ?o1_6 ?o1_7 ?o1_8 ?o1_9 ?o1_10 ?o1_11 ?o2_0 ?o2_1 ?o2_3 ?o2_4 ?o2_5 ?o2_6 ?o2_7 ?o2_8 ?o2_9 ?o2_10 ?o2_11 ?u1_ValueError ?u1_KeyError ?u1_IndexError ?u1_OverflowError ?u1_LookupError ?u1_RuntimeError ?u2_ValueError ?u2_KeyError ?u2_IndexError ?u2_OverflowError ?u2_LookupError ?u2_RuntimeError ?oo1 ?oo2 ?s21 ?a1 ?l1 ?c1 ?k1 ?a2 ?l2 ?c2 ?k2 ?a3 ?l3 ?c3 ?k3 ?a4 ?l4 ?c4 ?k4 ?a5 ?l5 ?c5 ?k5 ?a6 ?l6 ?c6 ?k6 ?a7 ?l7 ?c7 ?k7 ?a8 ?l8 ?c8 ?k8 ?a9 ?l9 ?c9 ?k9 ?a10 ?l10 ?c10 ?k10 ?a11 ?l11 ?c11 ?k11 ?a12 ?l12 ?c12 ?k12 ?a13 ?l13 ?c13 ?k13 ?a14 ?l14 ?c14 ?k14 ?a15 ?l15 ?c15 ?k15 ?a16 ?l16 ?c16 ?k16 ?a17 ?l17 ?c17 ?k17 ?a18 ?l18 ?c18 ?k18 ?a19 ?l19 ?c19 ?k19 ?a20 ?l20 ?c20 ?k20 ?a21 ?l21 ?c21 ?k21 ?a22 ?l22 ?c22 ?k22 ?a23 ?l23 ?c23 ?k23 ?a24 ?l24 ?c24 ?k24 ?a25 ?l25 ?c25 ?k25 ?a26 ?l26 ?c26 ?k26 ?a27 ?l27 ?c27 ?k27 ?a28 ?l28 ?c28 ?k28 ?a29 ?l29 ?c29 ?k29 ?a30 ?l30 ?c30 ?k30 ?m1 ?m2 ?m3 ?m4 ?m5 ?wN ?qN ?wR ?qR ?wL ?qL ?z1 ?z2 ?z3 ?z4 ?z5 ?z6 ?z7 ?z8 ?z9 ?z10 ?z11 ?z12 ?z13 ?z14 ?z15 ?z16 ?yValueError ?yKeyError ?yIndexError ?yOverflowError ?yLookupError ?yRuntimeError
    (case aC => first | k_is | rfl)
    (case xL => first | k_is | rfl)
    (case sa => first | k_is | rfl)
    (case ga => first | k_is | rfl)
    (case gg => first | k_is | rfl)
    (case nb => first | k_is | rfl)
    (case aI => first | k_is | rfl)
    (case tI => first | k_is | rfl)
    (case lI => first | k_is | rfl)
    (case cI => first | k_is | rfl)
    (case kI => first | k_is | rfl)
    (case kC => first | k_is | rfl)
    (case eC => first | k_is | rfl)
    (case tC => first | k_is | rfl)
    (case hC => first | k_is | rfl)
    (case iC => first | k_is | rfl)
    (case sC => first | k_is | rfl)
    (case vC => first | k_is | rfl)
    (case caC => first | k_is | rfl)
    (case spC => first | k_is | rfl)
    (case tkC => first | k_is | rfl)
    (case mrC => first | k_is | rfl)
    (case skC => first | k_is | rfl)
    (case aC2 => first | k_is | rfl)
    (case xL2 => first | k_is | rfl)
    (case sa2 => first | k_is | rfl)
    (case ga2 => first | k_is | rfl)
    (case gg2 => first | k_is | rfl)
    (case nb2 => first | k_is | rfl)
    (case aI2 => first | k_is | rfl)
    (case tI2 => first | k_is | rfl)
    (case lI2 => first | k_is | rfl)
    (case cI2 => first | k_is | rfl)
    (case kI2 => first | k_is | rfl)
    (case kC2 => first | k_is | rfl)
    (case eC2 => first | k_is | rfl)
    (case tC2 => first | k_is | rfl)
    (case hC2 => first | k_is | rfl)
    (case iC2 => first | k_is | rfl)
    (case sC2 => first | k_is | rfl)
    (case vC2 => first | k_is | rfl)
    (case caC2 => first | k_is | rfl)
    (case spC2 => first | k_is | rfl)
    (case tkC2 => first | k_is | rfl)
    (case mrC2 => first | k_is | rfl)
    (case skC2 => first | k_is | rfl)
    (case e0 => first | k_is | rfl)
    (case e3 => first | k_is | rfl)
    (case e4 => first | k_is | rfl)
    (case e5 => first | k_is | rfl)
    (case e6 => first | k_is | rfl)
    (case e7 => first | k_is | rfl)
    (case e8 => first | k_is | rfl)
    (case e9 => first | k_is | rfl)
    (case e10 => first | k_is | rfl)
    (case e11 => first | k_is | rfl)
    (case o1_0 => first | k_is | rfl)
    (case o1_2 => first | k_is | rfl)
    (case o1_3 => first | k_is | rfl)
    (case o1_4 => first | k_is | rfl)
    (case o1_5 => first | k_is | rfl)
    (case o1_6 => first | k_is | rfl)
    (case o1_7 => first | k_is | rfl)
    (case o1_8 => first | k_is | rfl)
    (case o1_9 => first | k_is | rfl)
    (case o1_10 => first | k_is | rfl)
    (case o1_11 => first | k_is | rfl)
    (case o2_0 => first | k_is | rfl)
    (case o2_1 => first | k_is | rfl)
    (case o2_3 => first | k_is | rfl)
    (case o2_4 => first | k_is | rfl)
    (case o2_5 => first | k_is | rfl)
    (case o2_6 => first | k_is | rfl)
    (case o2_7 => first | k_is | rfl)
    (case o2_8 => first | k_is | rfl)
    (case o2_9 => first | k_is | rfl)
    (case o2_10 => first | k_is | rfl)
    (case o2_11 => first | k_is | rfl)
    (case u1_ValueError => first | k_is | rfl)
    (case u1_KeyError => first | k_is | rfl)
    (case u1_IndexError => first | k_is | rfl)
    (case u1_OverflowError => first | k_is | rfl)
    (case u1_LookupError => first | k_is | rfl)
    (case u1_RuntimeError => first | k_is | rfl)
    (case u2_ValueError => first | k_is | rfl)
    (case u2_KeyError => first | k_is | rfl)
    (case u2_IndexError => first | k_is | rfl)
    (case u2_OverflowError => first | k_is | rfl)
    (case u2_LookupError => first | k_is | rfl)
    (case u2_RuntimeError => first | k_is | rfl)
    (case oo1 => first | k_is | rfl)
    (case oo2 => first | k_is | rfl)
    (case s21 => first | k_is | rfl)
    (case a1 => k_is)
    (case l1 => k_is)
    (case c1 => k_is)
    (case k1 => k_is)
    (case a2 => k_is)
    (case l2 => k_is)
    (case c2 => k_is)
    (case k2 => k_is)
    (case a3 => k_is)
    (case l3 => k_is)
    (case c3 => k_is)
    (case k3 => k_is)
    (case a4 => k_is)
    (case l4 => k_is)
    (case c4 => k_is)
    (case k4 => k_is)
    (case a5 => k_is)
    (case l5 => k_is)
    (case c5 => k_is)
    (case k5 => k_is)
    (case a6 => k_is)
    (case l6 => k_is)
    (case c6 => k_is)
    (case k6 => k_is)
    (case a7 => k_is)
    (case l7 => k_is)
    (case c7 => k_is)
    (case k7 => k_is)
    (case a8 => k_is)
    (case l8 => k_is)
    (case c8 => k_is)
    (case k8 => k_is)
    (case a9 => k_is)
    (case l9 => k_is)
    (case c9 => k_is)
    (case k9 => k_is)
    (case a10 => k_is)
    (case l10 => k_is)
    (case c10 => k_is)
    (case k10 => k_is)
    (case a11 => k_is)
    (case l11 => k_is)
    (case c11 => k_is)
    (case k11 => k_is)
    (case a12 => k_is)
    (case l12 => k_is)
    (case c12 => k_is)
    (case k12 => k_is)
    (case a13 => k_is)
    (case l13 => k_is)
    (case c13 => k_is)
    (case k13 => k_is)
    (case a14 => k_is)
    (case l14 => k_is)
    (case c14 => k_is)
    (case k14 => k_is)
    (case a15 => k_is)
    (case l15 => k_is)
    (case c15 => k_is)
    (case k15 => k_is)
    (case a16 => k_is)
    (case l16 => k_is)
    (case c16 => k_is)
    (case k16 => k_is)
    (case a17 => k_is)
    (case l17 => k_is)
    (case c17 => k_is)
    (case k17 => k_is)
    (case a18 => k_is)
    (case l18 => k_is)
    (case c18 => k_is)
    (case k18 => k_is)
    (case a19 => k_is)
    (case l19 => k_is)
    (case c19 => k_is)
    (case k19 => k_is)
    (case a20 => k_is)
    (case l20 => k_is)
    (case c20 => k_is)
    (case k20 => k_is)
    (case a21 => k_is)
    (case l21 => k_is)
    (case c21 => k_is)
    (case k21 => k_is)
    (case a22 => k_is)
    (case l22 => k_is)
    (case c22 => k_is)
    (case k22 => k_is)
    (case a23 => k_is)
    (case l23 => k_is)
    (case c23 => k_is)
    (case k23 => k_is)
    (case a24 => k_is)
    (case l24 => k_is)
    (case c24 => k_is)
    (case k24 => k_is)
    (case a25 => k_is)
    (case l25 => k_is)
    (case c25 => k_is)
    (case k25 => k_is)
    (case a26 => k_is)
    (case l26 => k_is)
    (case c26 => k_is)
    (case k26 => k_is)
    (case a27 => k_is)
    (case l27 => k_is)
    (case c27 => k_is)
    (case k27 => k_is)
    (case a28 => k_is)
    (case l28 => k_is)
    (case c28 => k_is)
    (case k28 => k_is)
    (case a29 => k_is)
    (case l29 => k_is)
    (case c29 => k_is)
    (case k29 => k_is)
    (case a30 => k_is)
    (case l30 => k_is)
    (case c30 => k_is)
    (case k30 => k_is)
    (case m1 => k_is)
    (case m2 => k_is)
    (case m3 => k_is)
    (case m4 => k_is)
    (case m5 => k_is)
    (case wN => k_is)
    (case qN => k_is)
    (case wR => k_is)
    (case qR => k_is)
    (case wL => k_is)
    (case qL => k_is)
    (case z1 => k_is)
    (case z2 => k_is)
    (case z3 => k_is)
    (case z4 => k_is)
    (case z5 => k_is)
    (case z6 => k_is)
    (case z7 => k_is)
    (case z8 => k_is)
    (case z9 => k_is)
    (case z10 => k_is)
    (case z11 => k_is)
    (case z12 => k_is)
    (case z13 => k_is)
    (case z14 => k_is)
    (case z15 => k_is)
    (case z16 => k_is)
    (case yValueError => k_is)
    (case yKeyError => k_is)
    (case yIndexError => k_is)
    (case yOverflowError => k_is)
    (case yLookupError => k_is)
    (case yRuntimeError => k_is)
