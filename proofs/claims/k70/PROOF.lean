import PyProof.Rows.All
import Wide.All
import OpenK.AllK
import Wide.FinOn
import HandS.ForMost
import HandS.ForExc
import HandS.IsInst
import HandS.Deep
import HandS.StrMore
import HandS.SetKeys
import HandS.TupAny
import HandS.Style
import HandS.Evl
import HandS.Walk
import HandS.Wide
import KE.GoesMore
import KE.GoesEnum
import HandS.Strs
import HandS.Sort
import HandS.Text
import HandS.TupLe
import HandS.TryOnly
import HandS.ExcOwn
import HandS.Star
import HandS.FStr
import HandS.Replace
import PyProof.FString3
import HandS.Flow
import HandS.RaiseMore
import PyProof.ReprLen
import PyProof.ReprRoads
import PyProof.Rows.RegStrFacts
import HandS.CallLocal
import HandS.ExcIs
import KE.KRevSl
import PyProof.Rows.IntBool
import PyProof.Rows.StrCase
import HandS.TupMul
import PySem.Challenge.RW_watchedrun_k70_no_programs
set_option Elab.async false
set_option linter.all false
set_option maxRecDepth 100000
set_option maxHeartbeats 4000000
namespace Wr
open PySem PySem.Spec PyProof.Rows L2 Evl

/-! ### heaps with some addresses hidden -/
def hid (b : List Addr) (H : Hp) : Hp := fun a => if a ∈ b then none else H a
def Kn (b : List Addr) (H : Hp) : Prop := ∀ a ∈ b, H a ≠ none
theorem hid_ne {b : List Addr} {H : Hp} {a : Addr} (h : a ∉ b) : hid b H a = H a := if_neg h
theorem hid_some {b : List Addr} {H : Hp} {a : Addr} {o : HO} (h : hid b H a = some o) : a ∉ b ∧ H a = some o := by
  unfold hid at h
  by_cases e : a ∈ b
  · rw [if_pos e] at h
    cases h
  · rw [if_neg e] at h
    exact ⟨e, h⟩
theorem hid_le {b : List Addr} {H : Hp} : Ex (hid b H) H := fun _ _ h => (hid_some h).2
theorem hid_ex {b : List Addr} {H H' : Hp} (e : Ex H H') : Ex (hid b H) (hid b H') := fun a o h => by
  obtain ⟨h1, h2⟩ := hid_some h
  rw [hid_ne h1]
  exact e a o h2
theorem Kn.up {b : List Addr} {H H' : Hp} (k : Kn b H) (e : Ex H H') : Kn b H' := fun a ha h => by
  have := k a ha
  cases q : H a with
  | none => exact this q
  | some o =>
    rw [e a o q] at h
    cases h
theorem Kn.new {b : List Addr} {H : Hp} (k : Kn b H) {p : Addr} (hp : H p = none) : p ∉ b := fun e => k p e hp

/-! ### data whose tuples are known to have no dict of their own -/
def TN (K : PySem.W.Frag) (H : Hp) (a : Addr) : Prop := (∃ o u, H a = some (.frz o u) ∧ o.dict = none) ∨ ∃ o, K.lookup a = some o ∧ o.cls = .type "tuple" ∧ o.dict = none
theorem TN.ex {K : PySem.W.Frag} {H H' : Hp} {a : Addr} (e : Ex H H') (h : TN K H a) : TN K H' a := by
  rcases h with ⟨o, u, h1, h2⟩ | h
  · exact .inl ⟨o, u, e _ _ h1, h2⟩
  · exact .inr h
mutual
inductive Dd (K : PySem.W.Frag) (H : Hp) : V → PyData → Prop
  | non : Dd K H .non .none
  | bl (b : Bool) : Dd K H (.bl b) (.bool b)
  | int (i : Int) : Dd K H (.int i) (.int i)
  | str (x : Str) : Dd K H (.str x) (.str x)
  | lst {a : Addr} {xs : List V} {ds : List PyData} : SqL K H a xs → DdAll K H xs ds → Dd K H (.ref a) (.list ds)
  | tup {a : Addr} {xs : List V} {ds : List PyData} : SqT K H a xs → TN K H a → DdAll K H xs ds → Dd K H (.ref a) (.tuple ds)
inductive DdAll (K : PySem.W.Frag) (H : Hp) : List V → List PyData → Prop
  | nil : DdAll K H [] []
  | cons {v : V} {vs : List V} {d : PyData} {ds : List PyData} : Dd K H v d → DdAll K H vs ds → DdAll K H (v :: vs) (d :: ds)
end
mutual
theorem dd_dp {K : PySem.W.Frag} {H : Hp} : ∀ (d : PyData) (v : V), Dd K H v d → Dp K H v d
  | .none, _, h => by cases h; exact .non
  | .bool b, _, h => by cases h; exact .bl b
  | .int i, _, h => by cases h; exact .int i
  | .str x, _, h => by cases h; exact .str x
  | .list ds, _, h => by
    cases h with
    | lst hs ha => exact .lst hs (dds_dp ds _ ha)
  | .tuple ds, _, h => by
    cases h with
    | tup hs _ ha => exact .tup hs (dds_dp ds _ ha)
  | .dict _, _, h => by cases h
theorem dds_dp {K : PySem.W.Frag} {H : Hp} : ∀ (ds : List PyData) (vs : List V), DdAll K H vs ds → DpAll K H vs ds
  | [], _, h => by cases h; exact .nil
  | d :: ds, _, h => by
    cases h with
    | cons h1 h2 => exact .cons (dd_dp d _ h1) (dds_dp ds _ h2)
end
/-! ### data stay where the heap grows -/
mutual
theorem dp_ex {K : PySem.W.Frag} {H H' : Hp} (e : Ex H H') : ∀ (d : PyData) (v : V), Dd K H v d → Dd K H' v d
  | .none, _, h => by cases h; exact .non
  | .bool b, _, h => by cases h; exact .bl b
  | .int i, _, h => by cases h; exact .int i
  | .str x, _, h => by cases h; exact .str x
  | .list ds, _, h => by
    cases h with
    | lst hs ha => exact .lst (ex_l e hs) (dps_ex e ds _ ha)
  | .tuple ds, _, h => by
    cases h with
    | tup hs hn ha => exact .tup (ex_t e hs) (hn.ex e) (dps_ex e ds _ ha)
  | .dict _, _, h => by cases h
theorem dps_ex {K : PySem.W.Frag} {H H' : Hp} (e : Ex H H') : ∀ (ds : List PyData) (vs : List V), DdAll K H vs ds → DdAll K H' vs ds
  | [], _, h => by cases h; exact .nil
  | d :: ds, _, h => by
    cases h with
    | cons h1 h2 => exact .cons (dp_ex e d _ h1) (dps_ex e ds _ h2)
end
abbrev Dq (K : PySem.W.Frag) (b : List Addr) (H : Hp) (v : V) (d : PyData) : Prop := Dd K (hid b H) v d
abbrev DqAll (K : PySem.W.Frag) (b : List Addr) (H : Hp) (vs : List V) (ds : List PyData) : Prop := DdAll K (hid b H) vs ds
section
variable {K : PySem.W.Frag} {b : List Addr} {H H' H1 H2 : Hp} {v : V} {vs : List V} {d e : PyData} {ds : List PyData}
theorem Dq.up (h : Dq K b H v d) (e : Ex H H') : Dq K b H' v d := dp_ex (hid_ex e) d v h
theorem DqAll.up (h : DqAll K b H vs ds) (e : Ex H H') : DqAll K b H' vs ds := dps_ex (hid_ex e) ds vs h
theorem Dq.dd (h : Dq K b H v d) : Dd K H v d := dp_ex hid_le d v h
theorem Dq.dp (h : Dq K b H v d) : Dp K H v d := dd_dp d v h.dd
theorem DqAll.dd (h : DqAll K b H vs ds) : DdAll K H vs ds := dps_ex hid_le ds vs h
theorem dps_len : ∀ {vs : List V} {ds : List PyData} {H : Hp}, DdAll K H vs ds → vs.length = ds.length
  | _, [], _, h => by cases h; rfl
  | _, d :: ds, _, h => by
    cases h with
    | cons h1 h2 => rw [List.length_cons, List.length_cons, dps_len h2]
theorem dps_get : ∀ {vs : List V} {ds : List PyData} {H : Hp} {i : Nat} {d : PyData}, DdAll K H vs ds → ds[i]? = some d → ∃ v, vs[i]? = some v ∧ Dd K H v d
  | _, [], _, i, d, h, e => by simp at e
  | _, x :: ds, _, 0, d, h, e => by
    cases h with
    | cons h1 h2 =>
      have e1 : x = d := Option.some.inj e
      subst e1
      exact ⟨_, rfl, h1⟩
  | _, x :: ds, _, i + 1, d, h, e => by
    cases h with
    | cons h1 h2 =>
      obtain ⟨v, q1, q2⟩ := dps_get h2 (i := i) e
      exact ⟨v, q1, q2⟩
theorem dps_at : ∀ {vs : List V} {ds : List PyData} {H : Hp} {i : Nat} {v : V}, DdAll K H vs ds → vs[i]? = some v → ∃ d, ds[i]? = some d ∧ Dd K H v d
  | _, [], _, i, v, h, e => by cases h; simp at e
  | _, x :: ds, _, 0, v, h, e => by
    cases h with
    | cons h1 h2 =>
      have e1 := Option.some.inj e
      subst e1
      exact ⟨_, rfl, h1⟩
  | _, x :: ds, _, i + 1, v, h, e => by
    cases h with
    | cons h1 h2 =>
      obtain ⟨d, q1, q2⟩ := dps_at h2 (i := i) e
      exact ⟨d, q1, q2⟩
theorem dps_app : ∀ {vs ws : List V} {ds es : List PyData} {H : Hp}, DdAll K H vs ds → DdAll K H ws es → DdAll K H (vs ++ ws) (ds ++ es)
  | _, _, [], _, _, h, h' => by cases h; exact h'
  | _, _, x :: ds, _, _, h, h' => by
    cases h with
    | cons h1 h2 => exact .cons h1 (dps_app h2 h')
theorem dps_drop : ∀ {vs : List V} {ds : List PyData} {H : Hp} (n : Nat), DdAll K H vs ds → DdAll K H (vs.drop n) (ds.drop n)
  | _, _, _, 0, h => h
  | _, [], _, n + 1, h => by cases h; exact .nil
  | _, x :: ds, _, n + 1, h => by
    cases h with
    | cons h1 h2 => exact dps_drop n h2
theorem dps_take : ∀ {vs : List V} {ds : List PyData} {H : Hp} (n : Nat), DdAll K H vs ds → DdAll K H (vs.take n) (ds.take n)
  | _, _, _, 0, h => .nil
  | _, [], _, n + 1, h => by cases h; exact .nil
  | _, x :: ds, _, n + 1, h => by
    cases h with
    | cons h1 h2 => exact .cons h1 (dps_take n h2)
/-- texts are texts -/
theorem dps_strs : ∀ {vs : List V} {xs : List Str} {H : Hp}, DdAll K H vs (xs.map PyData.str) → vs = xs.map V.str
  | _, [], _, h => by cases h; rfl
  | _, x :: xs, _, h => by
    cases h with
    | cons h1 h2 =>
      cases h1
      rw [dps_strs h2]
      rfl
theorem strs_dps : ∀ (xs : List Str) {H : Hp}, DdAll K H (xs.map V.str) (xs.map PyData.str)
  | [], _ => .nil
  | x :: xs, _ => .cons (.str x) (strs_dps xs)
theorem dps_bls : ∀ {vs : List V} {xs : List Bool} {H : Hp}, DdAll K H vs (xs.map PyData.bool) → vs = xs.map V.bl
  | _, [], _, h => by cases h; rfl
  | _, x :: xs, _, h => by
    cases h with
    | cons h1 h2 =>
      cases h1
      rw [dps_bls h2]
      rfl
end
/-- a new object at p keeps what is hidden hidden -/
theorem hid_new {b : List Addr} {H : Hp} {p : Addr} {o : HO} (h : p ∉ b) : hid b (upd H p o) p = some o := by
  rw [hid_ne h, upd_same]
end Wr

set_option Elab.async false
set_option linter.all false
set_option maxRecDepth 100000
set_option maxHeartbeats 4000000
namespace Wr
open PySem PySem.Spec PyProof.Rows L2 Evl

/-! ### what evaluates to which datum -/
section
variable (K : PySem.W.Frag) (b : List Addr)
def ED (te : TE) (σ : L2.St) (H : Hp) (d : PyData) : Prop := ∀ H1, Ex H H1 → ∀ Q : VK, (∀ v H2, Ex H1 H2 → Dq K b H2 v d → Q v H2) → te σ H1 Q
def EA (ta : TA) (σ : L2.St) (H : Hp) (ds : List PyData) : Prop := ∀ H1, Ex H H1 → ∀ Q : List V → Hp → Prop, (∀ vs H2, Ex H1 H2 → DqAll K b H2 vs ds → Q vs H2) → ta σ H1 Q
def SR (ts : TS) (σ : L2.St) (H : Hp) (d : PyData) : Prop := ∀ H1, Ex H H1 → ∀ D : Ends, (∀ v H2, Ex H1 H2 → Dq K b H2 v d → D.rt v H2) → ts D σ H1
end
/-- a pure def: data in, a datum out, all that stood stands -/
def spP (K : PySem.W.Frag) (pre : List PyData → Prop) (f : List PyData → PyData) : Sp := fun vs H Q _ =>
  ∃ b ds, Kn b H ∧ DqAll K b H vs ds ∧ pre ds ∧ ∀ v H', Ex H H' → Dq K b H' v (f ds) → Q v H'
section
variable {K : PySem.W.Frag} {b : List Addr} {σ : L2.St} {H H' : Hp} {ta tb tc te : TE} {t : TA} {tt : TT} {ts t1 t2 : TS} {d e : PyData} {ds : List PyData} {v : V}
theorem ED.mono (x : Ex H H') (h : ED K b te σ H d) : ED K b te σ H' d := fun H1 a Q q => h H1 (x.trans a) Q q
theorem EA.mono (x : Ex H H') (h : EA K b t σ H ds) : EA K b t σ H' ds := fun H1 a Q q => h H1 (x.trans a) Q q
theorem SR.mono (x : Ex H H') (h : SR K b ts σ H d) : SR K b ts σ H' d := fun H1 a Q q => h H1 (x.trans a) Q q
theorem ED.to (h : ED K b te σ H d) (x : d = e) : ED K b te σ H e := x ▸ h
theorem SR.to (h : SR K b ts σ H d) (x : d = e) : SR K b ts σ H e := x ▸ h
theorem ed_var {i : Nat} (h : σ[i]? = some (some v)) (hd : Dq K b H v d) : ED K b (tVar i) σ H d := fun H1 x _ q => ⟨v, h, q v H1 (Ex.refl H1) (hd.up x)⟩
theorem ed_c (hd : Dq K b H v d) : ED K b (tC v) σ H d := fun H1 x _ q => q v H1 (Ex.refl H1) (hd.up x)
theorem ed_int {i : Int} : ED K b (tC (.int i)) σ H (.int i) := ed_c (.int i)
theorem ed_str {x : Str} : ED K b (tC (.str x)) σ H (.str x) := ed_c (.str x)
theorem ed_bl {x : Bool} : ED K b (tC (.bl x)) σ H (.bool x) := ed_c (.bl x)
theorem ed_non : ED K b (tC .non) σ H .none := ed_c .non
/-- two operands, then an operation on data -/
theorem ed_op {r : R2} {z : PyData} (ha : ED K b ta σ H d) (hb : ED K b tb σ H e) (hr : ∀ H1 x y (Q : VK), Ex H H1 → Dq K b H1 x d → Dq K b H1 y e → (∀ v H2, Ex H1 H2 → Dq K b H2 v z → Q v H2) → r x y H1 Q) : ED K b (tOp r ta tb) σ H z :=
  fun H1 x1 Q q => ha H1 x1 _ fun x H2 x2 hx => hb H2 (x1.trans x2) _ fun y H3 x3 hy =>
    hr H3 x y Q ((x1.trans x2).trans x3) (hx.up x3) hy fun v H4 x4 hv => q v H4 ((x2.trans x3).trans x4) hv
theorem ed_eq (ha : ED K b ta σ H d) (hb : ED K b tb σ H e) (sd : SeqAt.shaped d = true) (se : SeqAt.shaped e = true) : ED K b (tOp (rEqD K) ta tb) σ H (.bool (PyData.eqv d e)) :=
  ed_op ha hb fun H1 x y Q _ hx hy q => ⟨d, e, hx.dp, hy.dp, sd, se, q _ H1 (Ex.refl H1) (.bl _)⟩
theorem ed_ne (ha : ED K b ta σ H d) (hb : ED K b tb σ H e) (sd : SeqAt.shaped d = true) (se : SeqAt.shaped e = true) : ED K b (tOp (rNeD K) ta tb) σ H (.bool (!PyData.eqv d e)) :=
  ed_op ha hb fun H1 x y Q _ hx hy q => ⟨d, e, hx.dp, hy.dp, sd, se, q _ H1 (Ex.refl H1) (.bl _)⟩
theorem dq_int {i : Int} (h : Dq K b H v (.int i)) : v = .int i := by cases h; rfl
theorem dq_bl {i : Bool} (h : Dq K b H v (.bool i)) : v = .bl i := by cases h; rfl
theorem dq_str {i : Str} (h : Dq K b H v (.str i)) : v = .str i := by cases h; rfl
theorem ed_I0 {g : Int → Int → V} {i j : Int} {z : PyData} (ha : ED K b ta σ H (.int i)) (hb : ED K b tb σ H (.int j)) (hz : ∀ H', Dq K b H' (g i j) z) : ED K b (tOp (rI0 g) ta tb) σ H z :=
  ed_op ha hb fun H1 x y Q _ hx hy q => ⟨i, j, dq_int hx, dq_int hy, q _ H1 (Ex.refl H1) (hz _)⟩
theorem ed_I {C : Int → Int → Prop} {g : Int → Int → V} {i j : Int} {z : PyData} (ha : ED K b ta σ H (.int i)) (hb : ED K b tb σ H (.int j)) (hc : C i j) (hz : ∀ H', Dq K b H' (g i j) z) : ED K b (tOp (rI C g) ta tb) σ H z :=
  ed_op ha hb fun H1 x y Q _ hx hy q => ⟨i, j, dq_int hx, dq_int hy, hc, q _ H1 (Ex.refl H1) (hz _)⟩
theorem ed_lt {i j : Int} (ha : ED K b ta σ H (.int i)) (hb : ED K b tb σ H (.int j)) : ED K b (tOp (rI0 fun i j => .bl (decide (i < j))) ta tb) σ H (.bool (decide (i < j))) := ed_I0 ha hb fun _ => .bl _
theorem ed_le {i j : Int} (ha : ED K b ta σ H (.int i)) (hb : ED K b tb σ H (.int j)) : ED K b (tOp (rI0 fun i j => .bl (decide (i ≤ j))) ta tb) σ H (.bool (decide (i ≤ j))) := ed_I0 ha hb fun _ => .bl _
theorem ed_gt {i j : Int} (ha : ED K b ta σ H (.int i)) (hb : ED K b tb σ H (.int j)) : ED K b (tOp (rI0 fun i j => .bl (decide (j < i))) ta tb) σ H (.bool (decide (j < i))) := ed_I0 ha hb fun _ => .bl _
theorem ed_ge {i j : Int} (ha : ED K b ta σ H (.int i)) (hb : ED K b tb σ H (.int j)) : ED K b (tOp (rI0 fun i j => .bl (decide (j ≤ i))) ta tb) σ H (.bool (decide (j ≤ i))) := ed_I0 ha hb fun _ => .bl _
theorem ed_add {i j : Int} (ha : ED K b ta σ H (.int i)) (hb : ED K b tb σ H (.int j)) : ED K b (tOp (rI0 fun i j => .int (i + j)) ta tb) σ H (.int (i + j)) := ed_I0 ha hb fun _ => .int _
theorem ed_sub {i j : Int} (ha : ED K b ta σ H (.int i)) (hb : ED K b tb σ H (.int j)) : ED K b (tOp (rI0 fun i j => .int (i - j)) ta tb) σ H (.int (i - j)) := ed_I0 ha hb fun _ => .int _
theorem ed_neg {i : Int} (ha : ED K b ta σ H (.int i)) : ED K b (tUn (rU fun i => .int (-i)) ta) σ H (.int (-i)) := fun H1 x1 Q q =>
  ha H1 x1 _ fun x H2 x2 hx => ⟨i, dq_int hx, q _ H2 x2 (.int _)⟩
/-- a chain of two comparisons of ints -/
theorem ed_chain {g g' : Int → Int → Bool} {i j k : Int} (ha : ED K b ta σ H (.int i)) (hb : ED K b tb σ H (.int j)) (hc : ED K b tc σ H (.int k)) :
    ED K b (tChain (rI0 fun i j => .bl (g i j)) (rI0 fun i j => .bl (g' i j)) ta tb tc) σ H (.bool (g i j && g' j k)) := fun H1 x1 Q q =>
  ha H1 x1 _ fun x H2 x2 hx => hb H2 (x1.trans x2) _ fun y H3 x3 hy => ⟨i, j, dq_int hx, dq_int hy, g i j, rfl, by
    cases hg : g i j with
    | false =>
      rw [if_neg Bool.false_ne_true]
      rw [hg] at q
      exact q _ H3 (x2.trans x3) (.bl _)
    | true =>
      rw [if_pos rfl]
      rw [hg] at q
      exact hc H3 ((x1.trans x2).trans x3) _ fun z H4 x4 hz => ⟨j, k, dq_int hy, dq_int hz, q _ H4 ((x2.trans x3).trans x4) (.bl _)⟩⟩
theorem ed_and {c : Bool} (ha : ED K b ta σ H (.bool c)) (hb : c = true → ED K b tb σ H d) : ED K b (tAndV ta tb) σ H (if c = true then d else .bool false) := fun H1 x1 Q q =>
  ha H1 x1 _ fun x H2 x2 hx => ⟨c, dq_bl hx, by
    cases c with
    | false =>
      rw [if_neg Bool.false_ne_true]
      rw [if_neg Bool.false_ne_true] at q
      exact q _ H2 x2 (.bl _)
    | true =>
      rw [if_pos rfl]
      rw [if_pos rfl] at q
      exact hb rfl H2 (x1.trans x2) _ fun z H4 x4 hz => q _ H4 (x2.trans x4) hz⟩
theorem ed_or {c : Bool} (ha : ED K b ta σ H (.bool c)) (hb : c = false → ED K b tb σ H d) : ED K b (tOrV ta tb) σ H (if c = true then .bool true else d) := fun H1 x1 Q q =>
  ha H1 x1 _ fun x H2 x2 hx => ⟨c, dq_bl hx, by
    cases c with
    | true =>
      rw [if_pos rfl]
      rw [if_pos rfl] at q
      exact q _ H2 x2 (.bl _)
    | false =>
      rw [if_neg Bool.false_ne_true]
      rw [if_neg Bool.false_ne_true] at q
      exact hb rfl H2 (x1.trans x2) _ fun z H4 x4 hz => q _ H4 (x2.trans x4) hz⟩
/-- and, or of truths -/
theorem ed_andB {c k : Bool} (ha : ED K b ta σ H (.bool c)) (hb : c = true → ED K b tb σ H (.bool k)) : ED K b (tAndV ta tb) σ H (.bool (c && k)) := (ed_and ha hb).to (by cases c <;> rfl)
theorem ed_orB {c k : Bool} (ha : ED K b ta σ H (.bool c)) (hb : c = false → ED K b tb σ H (.bool k)) : ED K b (tOrV ta tb) σ H (.bool (c || k)) := (ed_or ha hb).to (by cases c <;> rfl)
theorem ed_not {c : Bool} (ha : ED K b ta σ H (.bool c)) : ED K b (tNotV ta) σ H (.bool (!c)) := fun H1 x1 Q q =>
  ha H1 x1 _ fun x H2 x2 hx => ⟨c, dq_bl hx, q _ H2 x2 (.bl _)⟩
theorem et_t {c : Bool} (h : ED K b te σ H (.bool c)) : EvT (tTest te) σ H c := fun H1 x Q q => h H1 x _ fun v H2 x2 hv => ⟨c, dq_bl hv, q H2 x2⟩
theorem et_b {c : Bool} (h : ED K b te σ H (.bool c)) : EvT (tB te) σ H c := fun H1 x Q q => h H1 x _ fun v H2 x2 hv => ⟨c, dq_bl hv, q H2 x2⟩
theorem ed_if {c : Bool} (hc : EvT tt σ H c) (ha : c = true → ED K b ta σ H d) (hb : c = false → ED K b tb σ H e) : ED K b (tIf tt ta tb) σ H (if c = true then d else e) := fun H1 x1 Q q =>
  hc H1 x1 _ fun H2 x2 => by
    cases c with
    | true =>
      rw [if_pos rfl]
      rw [if_pos rfl] at q
      exact ha rfl H2 (x1.trans x2) _ fun z H4 x4 hz => q _ H4 (x2.trans x4) hz
    | false =>
      rw [if_neg Bool.false_ne_true]
      rw [if_neg Bool.false_ne_true] at q
      exact hb rfl H2 (x1.trans x2) _ fun z H4 x4 hz => q _ H4 (x2.trans x4) hz
/-! ### arguments, calls -/
theorem ea_nil : EA K b tNil σ H [] := fun H1 x Q q => q [] H1 (Ex.refl H1) .nil
theorem ea_cons (ha : ED K b ta σ H d) (hr : EA K b t σ H ds) : EA K b (tCons ta t) σ H (d :: ds) := fun H1 x1 Q q =>
  ha H1 x1 _ fun x H2 x2 hx => hr H2 (x1.trans x2) _ fun xs H3 x3 hxs => q _ H3 (x2.trans x3) (.cons (hx.up x3) hxs)
theorem ed_call {pre : List PyData → Prop} {f : List PyData → PyData} {E : XK} (kn : Kn b H) (ha : EA K b t σ H ds) (hp : pre ds) : ED K b (tCall (spP K pre f) [] E t) σ H (f ds) := fun H1 x1 Q q =>
  ha H1 x1 _ fun vs H2 x2 hvs => ⟨b, ds, kn.up (x1.trans x2), by rw [List.append_nil]; exact hvs, hp, fun v H3 x3 hv => q v H3 (x2.trans x3) hv⟩
/-! ### blocks -/
theorem sr_ret (h : ED K b te σ H d) : SR K b (tRet te) σ H d := fun H1 x D q => h H1 x _ fun v H2 x2 hv => q v H2 x2 hv
theorem sr_if {c : Bool} (hc : EvT tt σ H c) (h1 : c = true → SR K b t1 σ H d) (h2 : c = false → SR K b t2 σ H e) : SR K b (tSeq (tIfS tt t1 tNext) t2) σ H (if c = true then d else e) := fun H1 x1 D q =>
  hc H1 x1 _ fun H2 x2 => by
    cases c with
    | true =>
      rw [if_pos rfl]
      rw [if_pos rfl] at q
      exact h1 rfl H2 (x1.trans x2) _ fun z H4 x4 hz => q _ H4 (x2.trans x4) hz
    | false =>
      rw [if_neg Bool.false_ne_true]
      rw [if_neg Bool.false_ne_true] at q
      exact h2 rfl H2 (x1.trans x2) _ fun z H4 x4 hz => q _ H4 (x2.trans x4) hz
theorem sr_set {i : Nat} (h : ED K b te σ H e) (k : ∀ v H', Ex H H' → Dq K b H' v e → SR K b ts (σ.set i (some v)) H' d) : SR K b (tSeq (tAsg te (gName i)) ts) σ H d := fun H1 x1 D q =>
  h H1 x1 _ fun v H2 x2 hv => k v H2 (x1.trans x2) hv H2 (Ex.refl H2) D fun z H4 x4 hz => q _ H4 (x2.trans x4) hz
/-- the def's own end -/
theorem SR.fin {D : Ends} (h : SR K b ts σ H d) (q : ∀ v H', Ex H H' → Dq K b H' v d → D.rt v H') : ts D σ H := h H (Ex.refl H) D q
end
/-! ### kinds -/
def dTy : PyData → String
  | .none => "NoneType"
  | .bool _ => "bool"
  | .int _ => "int"
  | .str _ => "str"
  | .list _ => "list"
  | .tuple _ => "tuple"
  | .dict _ => "dict"
def tyIs (t T : String) : Bool := t == T || (t == "bool" && T == "int")
def isD (T : String) (d : PyData) : Bool := tyIs (dTy d) T
theorem dp_ty {K : PySem.W.Frag} {H : Hp} {v : V} {d : PyData} (h : Dp K H v d) : TyX K H v (.type (dTy d)) := by
  cases h with
  | non => exact .base .non
  | bl b => exact .base (.bl b)
  | int i => exact .base (.int i)
  | str x => exact .base (.str x)
  | lst hs _ =>
    rcases hs with (h | ⟨o, h⟩) | ⟨o, _, _, h1, h2, _⟩
    · exact .base (.lst h)
    · exact .base (.frz h)
    · exact .kList h1 h2
  | tup hs _ =>
    rcases hs with (h | ⟨o, h⟩) | ⟨o, _, _, h1, h2, _⟩
    · exact .base (.tup h)
    · exact .fTuple h
    · exact .kTuple h1 h2
def KindT (T : String) : Prop := T = "int" ∨ T = "bool" ∨ T = "str" ∨ T = "tuple" ∨ T = "list"
theorem kit_all : (["NoneType", "bool", "int", "str", "list", "tuple"].all fun t => ["int", "bool", "str", "tuple", "list"].all fun T => decide (kitB t T = some (tyIs t T))) = true := by decide +kernel
theorem kit_at {t T : String} (ht : t ∈ ["NoneType", "bool", "int", "str", "list", "tuple"]) (hT : T ∈ ["int", "bool", "str", "tuple", "list"]) : kitB t T = some (tyIs t T) :=
  of_decide_eq_true (List.all_eq_true.mp (List.all_eq_true.mp kit_all t ht) T hT)
theorem dp_kit {K : PySem.W.Frag} {H : Hp} {v : V} {d : PyData} (h : Dp K H v d) {T : String} (hT : KindT T) : PySem.W.kitOne K (.type (dTy d)) (.type T) = some (isD T d) := by
  refine kit_ty (kit_at ?_ ?_)
  · cases h <;> simp [dTy]
  · rcases hT with rfl | rfl | rfl | rfl | rfl <;> simp
section
variable {K : PySem.W.Frag} {b : List Addr} {σ : L2.St} {H H' : Hp} {ta tb : TE} {d e : PyData} {ds : List PyData} {v : V}
theorem ed_isi {T : String} (hT : KindT T) (ha : ED K b ta σ H d) : ED K b (tCB (rIsi K) (tCons ta (tCons (tC (.ty T)) tNil))) σ H (.bool (isD T d)) := fun H1 x1 Q q =>
  ha H1 x1 _ fun x H2 x2 hx => ⟨x, .ty T, .type (dTy d), .type T, isD T d, rfl, .ty T, dp_ty hx.dp, dp_kit hx.dp hT, q _ H2 x2 (.bl _)⟩
/-! ### len -/
def lenD : PyData → Nat
  | .str x => x.length
  | .list xs => xs.length
  | .tuple xs => xs.length
  | _ => 0
def rLen (K : PySem.W.Frag) : List V → Hp → VK → Prop := fun xs H Q => ∃ x n, xs = [x] ∧ LenV K x H n ∧ Q (.int n) H
theorem call_lenD1 {X : Cx} : CallR X (.builtin "len") (rLen X.K) := call_len
theorem ed_len (ha : ED K b ta σ H d) (hk : isD "str" d = true ∨ isD "list" d = true ∨ isD "tuple" d = true) (hs : ∀ x, d = .str x → x.length ≤ sizeLine) : ED K b (tCB (rLen K) (tCons ta tNil)) σ H (.int (lenD d)) := fun H1 x1 Q q =>
  ha H1 x1 _ fun x H2 x2 hx => by
    refine ⟨x, lenD d, rfl, ?_, q _ H2 x2 (.int _)⟩
    have hx' := hx.dd
    cases hx' with
    | str y => exact ⟨hs y rfl, rfl⟩
    | lst h1 h2 => exact Or.inl ⟨_, h1, (dps_len h2).symm⟩
    | tup h1 _ h2 => exact Or.inr ⟨_, h1, (dps_len h2).symm⟩
    | non => rcases hk with h | h | h <;> exact absurd h (by show ¬ tyIs "NoneType" _ = true; decide)
    | bl c => rcases hk with h | h | h <;> exact absurd h (by show ¬ tyIs "bool" _ = true; decide)
    | int c => rcases hk with h | h | h <;> exact absurd h (by show ¬ tyIs "int" _ = true; decide)
/-! ### items -/
theorem dps_atI {H : Hp} {vs : List V} {ds : List PyData} {i : Int} {d : PyData} (h : DdAll K H vs ds) (hi : atI ds i = some d) : ∃ v, atI vs i = some v ∧ Dd K H v d := by
  unfold atI at hi ⊢
  rw [dps_len h]
  cases hj : ixN ds.length i with
  | none => rw [hj] at hi; cases hi
  | some j =>
    rw [hj] at hi
    exact dps_get h (i := j) hi
theorem ed_ixT {i : Int} {z : PyData} (ha : ED K b ta σ H (.tuple ds)) (hb : ED K b tb σ H (.int i)) (hi : atI ds i = some z) : ED K b (tOp (rIxT K) ta tb) σ H z :=
  ed_op ha hb fun H1 x y Q _ hx hy q => by
    cases hx with
    | tup h1 _ h2 =>
      obtain ⟨v, q1, q2⟩ := dps_atI h2 hi
      exact ⟨_, _, i, v, rfl, dq_int hy, ex_t hid_le h1, q1, q v H1 (Ex.refl H1) q2⟩
theorem ed_ixL {i : Int} {z : PyData} (ha : ED K b ta σ H (.list ds)) (hb : ED K b tb σ H (.int i)) (hi : atI ds i = some z) : ED K b (tOp (rIxL K) ta tb) σ H z :=
  ed_op ha hb fun H1 x y Q _ hx hy q => by
    cases hx with
    | lst h1 h2 =>
      obtain ⟨v, q1, q2⟩ := dps_atI h2 hi
      exact ⟨_, _, i, v, rfl, dq_int hy, ex_l hid_le h1, q1, q v H1 (Ex.refl H1) q2⟩
/-! ### in -/
def rInT (K : PySem.W.Frag) (neg : Bool) : R2 := fun x y H Q => ∃ d ds, Dp K H x d ∧ Dp K H y (.tuple ds) ∧ SeqAt.shaped d = true ∧ SeqAt.shaped (.tuple ds) = true ∧ Q (.bl (if neg = true then !ds.any (fun z => PyData.eqv z d) else ds.any fun z => PyData.eqv z d)) H
theorem op_inT {X : Cx} (hu : X.A.units + 65 < cLine) : OpR X (compareOp .In) (rInT X.K false) := by
  intro pins s σ H x y v u Q I rx ry ⟨d, ds, hd, he, sd, se, q⟩
  obtain ⟨as, r1⟩ := Dp.reads I d x v hd rx
  obtain ⟨bs, r2⟩ := Dp.reads I (.tuple ds) y u he ry
  exact SeqAt.in_tuple_reads r2 r1 (SeqAt.canLay_of_shaped se) (SeqAt.canLay_of_shaped sd) (room_in_shaped sd hu) ⟨.bl _, H, I, rfl, q⟩
theorem op_notInT {X : Cx} (hu : X.A.units + 65 < cLine) : OpR X (compareOp .NotIn) (rInT X.K true) := by
  intro pins s σ H x y v u Q I rx ry ⟨d, ds, hd, he, sd, se, q⟩
  obtain ⟨as, r1⟩ := Dp.reads I d x v hd rx
  obtain ⟨bs, r2⟩ := Dp.reads I (.tuple ds) y u he ry
  exact SeqAt.notIn_tuple_reads r2 r1 (SeqAt.canLay_of_shaped se) (SeqAt.canLay_of_shaped sd) (room_in_shaped sd hu) ⟨.bl _, H, I, rfl, q⟩
def inD (d : PyData) (ds : List PyData) : Bool := ds.any fun z => PyData.eqv z d
theorem ed_inT (ha : ED K b ta σ H d) (hb : ED K b tb σ H (.tuple ds)) (sd : SeqAt.shaped d = true) (se : SeqAt.shaped (.tuple ds) = true) : ED K b (tOp (rInT K false) ta tb) σ H (.bool (inD d ds)) :=
  ed_op ha hb fun H1 x y Q _ hx hy q => ⟨d, ds, hx.dp, hy.dp, sd, se, q _ H1 (Ex.refl H1) (.bl _)⟩
theorem ed_inL (ha : ED K b ta σ H d) (hb : ED K b tb σ H (.list ds)) (sd : SeqAt.shaped d = true) (se : SeqAt.shaped (.list ds) = true) : ED K b (tOp (rInD K) ta tb) σ H (.bool (inD d ds)) :=
  ed_op ha hb fun H1 x y Q _ hx hy q => ⟨d, ds, hx.dp, hy.dp, sd, se, q _ H1 (Ex.refl H1) (.bl _)⟩
theorem ed_ninL (ha : ED K b ta σ H d) (hb : ED K b tb σ H (.list ds)) (sd : SeqAt.shaped d = true) (se : SeqAt.shaped (.list ds) = true) : ED K b (tOp (rNotInD K) ta tb) σ H (.bool (!inD d ds)) :=
  ed_op ha hb fun H1 x y Q _ hx hy q => ⟨d, ds, hx.dp, hy.dp, sd, se, q _ H1 (Ex.refl H1) (.bl _)⟩
/-! ### new lists and tuples -/
theorem ed_lst {t : TA} (kn : Kn b H) (ha : EA K b t σ H ds) (hl : ds.length ≤ sizeLine) : ED K b (tLst t) σ H (.list ds) := fun H1 x1 Q q =>
  ha H1 x1 _ fun vs H2 x2 hvs => ⟨by rw [dps_len hvs]; exact hl, fun p hp => q _ _ (x2.trans (Ex.new hp))
    (.lst (.inl (.inl (hid_new ((kn.up (x1.trans x2)).new hp)))) (hvs.up (Ex.new hp)))⟩
/-- a tuple display, its object known -/
def tTupF (t : TA) : TE := fun σ H Q => t σ H fun xs H1 => xs.length ≤ sizeLine ∧ ∀ p o, H1 p = none → o.dict = none → Q (.ref p) (upd H1 p (.frz o (.tup xs)))
theorem pe_tupF {X : Cx} {es : List Expr} {t : TA} {pos : Pos} {x1} (h : PA X es t) : PE X (.Tuple es x1 pos) (tTupF t) := by
  refine ⟨fun pins s σ H Q I hq => ?_⟩
  refine wpAny_Tuple_spliced (thn (h.run pos pins s σ H _ I hq) fun us s1 ⟨xs, H1, I1, r, z, q⟩ => ⟨by rw [← r.length]; exact z, ?_⟩)
  have hf : H1 s1.heap.objs.size = none := I1.hok.fresh (Nat.le_refl _)
  refine ⟨.ref s1.heap.objs.size, upd H1 s1.heap.objs.size (.frz { cls := .type "tuple", data := .seq us.toArray } (.tup xs)),
    I1.laid (t' := s1.toks) (fun b u e => Heap.get?_push_of_some _ e) (Nat.le_refl _) ?_, rfl, q _ _ hf rfl⟩
  exact ⟨Heap.get?_push_size _ rfl, z, us, r, ⟨_, Heap.get?_push_size _ rfl, rfl, _, rfl⟩⟩
theorem ed_tup {t : TA} (kn : Kn b H) (ha : EA K b t σ H ds) (hl : ds.length ≤ sizeLine) : ED K b (tTupF t) σ H (.tuple ds) := fun H1 x1 Q q =>
  ha H1 x1 _ fun vs H2 x2 hvs => ⟨by rw [dps_len hvs]; exact hl, fun p o hp ho => by
    have e := hid_new (o := HO.frz o (.tup vs)) (H := H2) ((kn.up (x1.trans x2)).new hp)
    exact q _ _ (x2.trans (Ex.new hp)) (.tup (.inl (.inr ⟨_, e⟩)) (.inl ⟨_, _, e, ho⟩) (hvs.up (Ex.new hp)))⟩
/-! ### all([..]) -/
theorem ed_all {bs : List Bool} (ha : ED K b ta σ H (.list (bs.map PyData.bool))) : ED K b (tCB (rAll K) (tCons ta tNil)) σ H (.bool (bs.all id)) := fun H1 x1 Q q =>
  ha H1 x1 _ fun x H2 x2 hx => by
    have hx' := hx.dd
    cases hx' with
    | lst h1 h2 =>
      rw [dps_bls h2] at h1
      exact ⟨_, bs, rfl, h1, q _ H2 x2 (.bl _)⟩
end
end Wr

set_option Elab.async false
set_option linter.all false
set_option maxRecDepth 100000
set_option maxHeartbeats 4000000
namespace Wr
open PySem PySem.Spec PyProof.Rows L2 Evl

/-! ### enumerate(tuple) -/
theorem enum_new1 {v : Value} {o : Obj} {H : Heap → Prop} (B : Begins v o H) :
    Meets (Builtin.«enumerate.__new__» ⟨[.type "enumerate", v], []⟩) (fun _ R s => H s.heap ∧
      R (.ok (.ret (.ref (s.heap.push o).objs.size)))
        { s with heap := (s.heap.push o).push { cls := .type "enumerate", data := .fields #[.none, .bool false, .ref s.heap.objs.size, rawInt 0, .none, .none] } }) :=
  .of_wp fun prog w A R s h => by
    obtain ⟨hp, g, d, tk, os⟩ := s
    obtain ⟨h1, h⟩ := h
    have hsub := sub_enumerate
    have q1 : ∀ {A' : Around} {E : Value → Shared → Prop} {Q : Value → Shared → Prop}, Q (.ref hp.objs.size) ⟨hp.push o, g, d, tk, os⟩ →
        wpAny (model prog w) A' (pyIter v) Q E ⟨hp, g, d, tk, os⟩ := fun q => B.iter prog w _ _ ⟨hp, g, d, tk, os⟩ _ h1 q
    wp_walk using q1
    refine wpAny_stack_any fun st => wpAny_pure ?_
    split
    · rename_i c _ _ _ _ _
      cases (c == Value.type "enumerate") <;> (wp_walk using q1; exact ⟨_, rfl, h⟩)
    · wp_walk using q1
      exact ⟨_, rfl, h⟩
section
variable {prog : Program} {w : World} {A : Around} {E : Value → Shared → Prop} {s : Shared}
theorem enum_call1 {v : Value} {o : Obj} {H : Heap → Prop} {Q : Value → Shared → Prop} (B : Begins v o H) (h1 : H s.heap)
    (h : ∀ h', IsEnum h' (s.heap.objs.size + 1) s.heap.objs.size 0 .none → h'.get? s.heap.objs.size = some o →
      (∀ b o, s.heap.get? b = some o → h'.get? b = some o) → Q (.ref (s.heap.objs.size + 1)) { s with heap := h' }) :
    wpAny (model prog w) A (call (.type "enumerate") [v]) Q E s := by
  refine callType_new F.called_enumerate (by decide) (F.typeCall_enumerate_1 _) (F.newCall_enumerate_1 _) (fun obj => F.args_object_init_2 obj _)
    F.entry_enumerate_new (enum_new1 B) ⟨h1, ?_⟩
  have hz : (s.heap.push o).objs.size = s.heap.objs.size + 1 := Heap.size_push ..
  show _ ∧ _
  rw [hz]
  have he : IsEnum ((s.heap.push o).push { cls := .type "enumerate", data := .fields #[.none, .bool false, .ref s.heap.objs.size, rawInt 0, .none, .none] })
      (s.heap.objs.size + 1) s.heap.objs.size 0 .none := by
    have g := Heap.get?_push_size (s.heap.push o) (o := { cls := .type "enumerate", data := .fields #[.none, .bool false, .ref s.heap.objs.size, rawInt 0, .none, .none] }) rfl
    rw [hz] at g
    exact g
  exact ⟨⟨_, he, rfl⟩, h _ he (Heap.get?_push_of_some _ (Heap.get?_push_size _ B.free)) fun b o x => Heap.get?_push_of_some _ (Heap.get?_push_of_some _ x)⟩
end
/-- the tuple at a, each item with its number in a new pair -/
def Itet (K : PySem.W.Frag) (a : Addr) : It where
  go := fun i H => ∃ (xs : List V) (x : V), SqT K H a xs ∧ xs[i]? = some x
  yld := fun i H v H' => ∃ T x, v = .ref T ∧ H T = none ∧ H' = upd H T (.tup [.int (i : Nat), x]) ∧ ∀ xs, SqT K H a xs → xs[i]? = some x
  stop := fun i H => ∃ xs : List V, SqT K H a xs ∧ xs.length = i
theorem turn_enumT {P : Program} {w : World} {K : PySem.W.Frag} {elts : List Expr} {kk : Nat} {tpos : Pos} (a e it : Addr) (hne : e ≠ it) (hat : a ≠ it) (hea : e ≠ a) :
    Turn P w K (.Tuple elts kk tpos) (Itet K a) [e, it] e (fun i h => (∃ old, IsEnum h e it ((i : Nat) : Int) old) ∧ h.IsTupleIter it a i) where
  mem := by simp
  obj := fun i h st b hb => by
    obtain ⟨⟨old, he⟩, ⟨o, ho, hc, hd⟩⟩ := st
    rcases (show b = e ∨ b = it by simpa using hb) with z | z
    · subst z
      exact ⟨_, he, fun v q => nomatch q⟩
    · subst z
      exact ⟨o, ho, fun v q => by rw [hd] at q; cases q⟩
  keep := fun i h h' st k => by
    obtain ⟨⟨old, he⟩, hi⟩ := st
    exact ⟨⟨old, k e (by simp) _ he⟩, hi.at fun o q => k it (by simp) o q⟩
  item := by
    intro X hP hw hK hc i pins s σ H E I hf st hg
    subst hP hw hK
    obtain ⟨⟨old, he⟩, hit⟩ := st
    obtain ⟨xs, x, hq, hx⟩ := hg
    obtain ⟨its, rv, p, hz⟩ := I.tuple hq
    obtain ⟨u, hu, ru⟩ := rv.get hx
    have hel : e < s.heap.objs.size := Heap.lt_size he
    have hil : it < s.heap.objs.size := by
      obtain ⟨_, q, _⟩ := hit
      exact Heap.lt_size q
    have hd : (X.A.in1).handled = none := I.ok.hd hc
    have hlt : i < its.toArray.size := by
      have := (List.getElem?_eq_some_iff.mp hu).1
      simpa using this
    refine wpAny_pyNext_enum_itemD (Draws.tuple hd it a hat its.toArray) he (i := i) ⟨hit, p⟩ hlt hne (by simp [hne, hea]) fun y h' tk hy ho st' hT hsz hk => ?_
    have ey : y = u := by
      have : its.toArray[i]? = some u := by simpa using hu
      rw [this] at hy
      exact (Option.some.inj hy).symm
    subst ey
    refine ⟨_, rfl, wpAny_letOwnedTupleGo_enum (s := { s with heap := h', toks := tk + 1 }) ho fun h'' he' sb => ?_⟩
    have hT2 : h''.get? s.heap.objs.size = some { cls := .type "tuple", data := .seq #[.int i tk, y] } := (sb.2 _ (Nat.ne_of_gt hel)).trans hT
    have new : ObjOk X.prog X.w (upd H s.heap.objs.size (.tup [.int (i : Nat), x])) h'' s.heap.objs.size (.tup [.int (i : Nat), x]) :=
      ⟨by show 2 ≤ sizeLine; decide, [.int i tk, y], .cons ⟨_, rfl⟩ (.cons ru .nil), ⟨_, hT2, rfl, _, rfl⟩⟩
    have I1 : Inv X pins σ (upd H s.heap.objs.size (.tup [.int (i : Nat), x])) { s with heap := h'', toks := tk + 1 } := by
      refine I.turnedNew (ch := [e, it]) (fun b ob hb q => ?_) hf (Nat.le_refl _) new
      have h1 : b ≠ e := fun z => hb (by simp [z])
      have h2 : b ≠ it := fun z => hb (by simp [z])
      exact (sb.2 b h1).trans (hk b ob h1 h2 q)
    refine ⟨.ref s.heap.objs.size, _, I1, rfl, ⟨_, x, rfl, I.hok.fresh (Nat.le_refl _), rfl, fun ys hy' => ?_⟩, ⟨⟨y, ?_⟩, st'.1.at fun o q => (sb.2 it (Ne.symm hne)).trans q⟩, fun b hb => ?_⟩
    · rw [I.tuple_inj hy' hq]
      exact hx
    · have e1 : ((i + 1 : Nat) : Int) = (i : Int) + 1 := by omega
      rw [e1]
      exact he'
    · have hb' : b < s.heap.objs.size := by
        rcases (show b = e ∨ b = it by simpa using hb) with z | z
        · rw [z]; exact hel
        · rw [z]; exact hil
      rw [upd_ne (Nat.ne_of_lt hb')]
      exact (hf b hb).1
  done := by
    intro X hP hw hK hc i pins s σ H E I hf st hg
    subst hP hw hK
    obtain ⟨⟨old, he⟩, hit⟩ := st
    obtain ⟨xs, hq, hx⟩ := hg
    obtain ⟨its, rv, p, hz⟩ := I.tuple hq
    obtain ⟨f0, f1, f2, f3, f4, f5⟩ := hf it (by simp)
    have hl := rv.length
    have hd : (X.A.in1).handled = none := I.ok.hd hc
    have ei : i = its.toArray.size := by
      rw [List.size_toArray]
      omega
    subst ei
    exact wpAny_pyNext_enum_endD (Draws.tuple hd it a hat its.toArray) he ⟨hit, p⟩ fun h' eb => ⟨rfl, I.turned (t' := s.toks) (fun b o hb q => eb b o hb q) f0 f1 f3 f4 f5⟩
  self := fun A i s Q E st h => by
    obtain ⟨⟨_, he⟩, _⟩ := st
    exact wpAny_pyIter_enum he h
def iEnumT (K : PySem.W.Frag) (ta : TA) : TI := fun σ H R => ta σ H fun vs H1 => ∃ a xs, vs = [.ref a] ∧ SqT K H1 a xs ∧ R (Itet K a) H1
theorem pi_enumT {X : Cx} {e : Expr} {ta : TA} {p pos tpos : Pos} {elts : List Expr} {kk : Nat} (hg : Gl X "enumerate") (hm : X.mg "enumerate" = none) (ha : PA X [e] ta)
    (hs : starEach [e] X.env = [(false, eval e X.env)] := by rfl) : PI X (.Tuple elts kk tpos) (.Call (.Name "enumerate" p) [e] [] pos) (iEnumT X.K ta) := by
  refine ⟨fun pins s σ H R I h => ?_⟩
  refine Call_ (ld_blt I hg hm boot_enumerate (PyProof.Rows.callWith_type1 (thn (ha.run pos pins s σ H _ I h) fun us s1 ⟨vs, H1, I1, r1, q1⟩ => ?_) hs rfl))
  obtain ⟨a, xs, ex, hq, q⟩ := q1
  subst ex
  cases r1 with
  | cons r rr =>
    cases rr
    cases r
    obtain ⟨its, rv, p', hz⟩ := I1.tuple hq
    have hal : a < s1.heap.objs.size := by
      obtain ⟨_, q', _⟩ := p'
      exact Heap.lt_size q'
    refine enum_call1 (begins_tuple a its.toArray) p' fun h' he hit hk => wpAny_pyIter_enum he ?_
    have I2 : Inv X pins σ H1 { s1 with heap := h' } := I1.kept (t' := s1.toks) hk
    refine ⟨s1.heap.objs.size + 1, [s1.heap.objs.size + 1, s1.heap.objs.size], _, _, H1, rfl, I2,
      turn_enumT a (s1.heap.objs.size + 1) s1.heap.objs.size (Nat.succ_ne_self _) (Nat.ne_of_lt hal) (Nat.ne_of_gt (Nat.lt_succ_of_lt hal)), ⟨⟨.none, he⟩, ⟨_, hit, rfl, rfl⟩⟩, fun b hb => ?_, q⟩
    have hle : s1.heap.objs.size ≤ b := by
      rcases (show b = s1.heap.objs.size + 1 ∨ b = s1.heap.objs.size by simpa using hb) with z | z
      · rw [z]; exact Nat.le_add_right _ _
      · rw [z]; exact Nat.le_refl _
    exact I1.fpOk hle (I1.hok.fresh hle)
theorem walk_enumT {K : PySem.W.Frag} {a : Addr} {xs : List V} : Walk (Itet K a) xs.length (fun H => SqT K H a xs) (YPair (fun i => some (.int (i : Nat))) (fun i => xs[i]?)) where
  goes := fun i H hi h => ⟨xs, xs[i], h, List.getElem?_eq_getElem hi⟩
  stops := fun H h => ⟨xs, h, rfl⟩
  yields := fun i H x H' hi h ⟨T, y, e1, e2, e3, e4⟩ => ⟨T, .int (i : Nat), y, e1, e2, e3, rfl, e4 xs h⟩
end Wr

set_option Elab.async false
set_option linter.all false
set_option maxRecDepth 100000
set_option maxHeartbeats 4000000
namespace Wr
open PySem PySem.Spec PyProof.Rows L2 Evl

/-! ### flat data -/
def flatP : PyData → Bool
  | .none => true
  | .bool _ => true
  | .int _ => true
  | .str _ => true
  | _ => false
def vOf : PyData → V
  | .bool b => .bl b
  | .int i => .int i
  | .str x => .str x
  | _ => .non
theorem dp_flat {K : PySem.W.Frag} {H : Hp} {v : V} {d : PyData} (h : Dd K H v d) (f : flatP d = true) : v = vOf d := by
  cases h with
  | non => rfl
  | bl b => rfl
  | int i => rfl
  | str x => rfl
  | lst _ _ => cases f
  | tup _ _ _ => cases f
theorem flat_dp {K : PySem.W.Frag} {H : Hp} {d : PyData} (f : flatP d = true) : Dd K H (vOf d) d := by
  cases d with
  | none => exact .non
  | bool b => exact .bl b
  | int i => exact .int i
  | str x => exact .str x
  | list _ => cases f
  | tuple _ => cases f
  | dict _ => cases f
theorem flats_dp {K : PySem.W.Frag} {H : Hp} : ∀ {ds : List PyData}, (∀ d ∈ ds, flatP d = true) → DdAll K H (ds.map vOf) ds
  | [], _ => .nil
  | d :: ds, f => .cons (flat_dp (f d List.mem_cons_self)) (flats_dp fun e he => f e (List.mem_cons_of_mem _ he))
theorem wipe_set1 {σ : L2.St} {n : Nat} {x : Option V} : wipe ((wipe σ [n]).set n x) [n] = wipe σ [n] := by
  show ((σ.set n none).set n x).set n none = σ.set n none
  rw [List.set_set, List.set_set]
section
variable {K : PySem.W.Frag} {b : List Addr} {σ : L2.St} {H H' : Hp} {ta te : TE} {tt : TT} {d : PyData} {ds : List PyData}
/-- a comprehension with one name, a test and flat items, over anything that is walked -/
theorem lc_flat {J : It} {n : Nat} {G : Hp → Prop} {xs : List V} {H2 : Hp} {k : Nat} {g : Nat → PyData} {p : Nat → Bool} (W : Walk J n G (YAt xs)) (hn : n = xs.length) (hl : n < sizeLine) (kn : Kn b H2) (hG : ∀ H3, Ex H2 H3 → G H3)
    (hp : ∀ i x H3, xs[i]? = some x → Ex H2 H3 → EvT tt ((wipe σ [k]).set k (some x)) H3 (p i))
    (he : ∀ i x H3, xs[i]? = some x → p i = true → Ex H2 H3 → ED K b te ((wipe σ [k]).set k (some x)) H3 (g i)) (hf : ∀ i, i < n → p i = true → flatP (g i) = true)
    {Q : VK} (q : ∀ v H3, Ex H2 H3 → Dq K b H3 v (.list (((List.range n).filter p).map g)) → Q v H3) (D : Addr) (hD : H2 D = none) :
    ∃ W : Nat → Nat → Hp → Prop, (∃ m, W 0 m (upd H2 D (.lst []))) ∧ ∀ i m H, W i m H →
      (J.stop i H ∧ Q (.ref D) H) ∨ (J.go i H ∧ ∃ Nx : Hp → Prop, (∀ H', Nx H' → ∃ m', m' < m ∧ W (i + 1) m' H') ∧ ∀ x H', J.yld i H x H' → gName k x (wipe σ [k]) H' fun σ2 H2 => wipe σ2 [k] = wipe σ [k] ∧ tt σ2 H2 fun b H3 =>
        if b = true then te σ2 H3 fun y H4 => ∃ acc, H4 D = some (.lst acc) ∧ acc.length < sizeLine ∧ Nx (upd H4 D (.lst (acc ++ [y]))) else Nx H3) := by
  refine lc_it W (fun i H3 => Ex H2 H3 ∧ H3 D = some (.lst ((((List.range i).filter p).map g).map vOf))) ⟨Ex.new hD, upd_same⟩ (fun i H3 _ h => hG H3 h.1) ?_ ?_
  · intro i x H3 H3' hi ⟨x3, e3⟩ ⟨e1, hx⟩
    subst e1
    refine ⟨wipe_set1, hp i x H3' hx x3 H3' (Ex.refl _) _ fun H4 x4 => ?_⟩
    have er : ∀ c, p i = c → (List.range (i + 1)).filter p = (List.range i).filter p ++ (if c = true then [i] else []) := fun c hc => by
      rw [List.range_succ, List.filter_append]
      cases c with
      | true => simp [hc]
      | false => simp [hc]
    cases hpi : p i with
    | false =>
      rw [if_neg Bool.false_ne_true]
      refine ⟨x3.trans x4, ?_⟩
      rw [er false hpi, if_neg Bool.false_ne_true, List.append_nil]
      exact x4 _ _ e3
    | true =>
      rw [if_pos rfl]
      refine he i x H4 hx hpi (x3.trans x4) H4 (Ex.refl _) _ fun y H5 x5 hy => ?_
      have ey := dp_flat hy (hf i hi hpi)
      refine ⟨_, x5 _ _ (x4 _ _ e3), ?_, Ex.mut (x3.trans (x4.trans x5)) hD, ?_⟩
      · rw [List.length_map, List.length_map]
        have := List.length_filter_le p (List.range i)
        rw [List.length_range] at this
        omega
      · rw [upd_same, er true hpi, if_pos rfl, List.map_append, List.map_append, ey]
        rfl
  · intro H3 ⟨x3, e3⟩
    refine q _ H3 x3 (.lst (.inl (.inl ?_)) (flats_dp fun d hd => ?_))
    · rw [hid_ne (kn.new hD)]
      exact e3
    · obtain ⟨i, hi, rfl⟩ := List.mem_map.mp hd
      obtain ⟨h1, h2⟩ := List.mem_filter.mp hi
      exact hf i (List.mem_range.mp h1) h2
theorem range_map {α β : Type} (xs : List α) (f : α → β) (g : Nat → β) (h : ∀ i x, xs[i]? = some x → g i = f x) : (List.range xs.length).map g = xs.map f := by
  apply List.ext_getElem?
  intro i
  rw [List.getElem?_map, List.getElem?_map]
  by_cases hi : i < xs.length
  · rw [List.getElem?_eq_getElem (by rw [List.length_range]; exact hi), List.getElem?_eq_getElem hi, List.getElem_range]
    simp [h i xs[i] (List.getElem?_eq_getElem hi)]
  · rw [List.getElem?_eq_none (by rw [List.length_range]; omega), List.getElem?_eq_none (by omega)]
    rfl
theorem range_filter_map {α β : Type} (f : α → β) (p : α → Bool) : ∀ (xs : List α) (g : Nat → β) (q : Nat → Bool), (∀ i x, xs[i]? = some x → q i = p x ∧ (p x = true → g i = f x)) → ((List.range xs.length).filter q).map g = (xs.filter p).map f
  | [], _, _, _ => rfl
  | x :: xs, g, q, h => by
    rw [List.length_cons, List.range_succ_eq_map, List.filter_cons]
    obtain ⟨h1, h2⟩ := h 0 x rfl
    have ih := range_filter_map f p xs (fun i => g (i + 1)) (fun i => q (i + 1)) fun i y hy => h (i + 1) y hy
    have e : ((List.range xs.length).map Nat.succ).filter q = ((List.range xs.length).filter fun i => q (i + 1)).map Nat.succ := by
      rw [List.filter_map]
      rfl
    have e2 : (((List.range xs.length).map Nat.succ).filter q).map g = (xs.filter p).map f := by
      rw [e, List.map_map, ← ih]
      rfl
    rw [h1, List.filter_cons]
    cases hp : p x with
    | true =>
      rw [if_pos rfl, if_pos rfl, List.map_cons, List.map_cons, e2, h2 hp]
    | false =>
      rw [if_neg Bool.false_ne_true, if_neg Bool.false_ne_true, e2]
/-- over a tuple, a list: no test -/
theorem et_yes : EvT tYes σ H true := fun H1 x Q q => q H1 (Ex.refl H1)
/-- over a tuple or a list: with a test; items flat -/
theorem ed_lcT {k : Nat} {f : PyData → PyData} {p : PyData → Bool} (kn : Kn b H) (ha : ED K b ta σ H (.tuple ds)) (hl : ds.length < sizeLine)
    (hp : ∀ d v H3, d ∈ ds → Ex H H3 → Dq K b H3 v d → EvT tt ((wipe σ [k]).set k (some v)) H3 (p d))
    (he : ∀ d v H3, d ∈ ds → p d = true → Ex H H3 → Dq K b H3 v d → ED K b te ((wipe σ [k]).set k (some v)) H3 (f d)) (hf : ∀ d ∈ ds, p d = true → flatP (f d) = true) :
    ED K b (tLc (iTup K ta) (gName k) tt te [k]) σ H (.list ((ds.filter p).map f)) := fun H1 x1 Q q =>
  ha H1 x1 _ fun x H2 x2 hx => by
    cases hx with
    | @tup a xs _ h1 _ h2 =>
      have hlen := dps_len h2
      have at_ : ∀ i x, xs[i]? = some x → ∃ d, ds[i]? = some d ∧ d ∈ ds ∧ Dq K b H2 x d := fun i x hx => by
        obtain ⟨d, g1, g2⟩ := dps_at h2 hx
        exact ⟨d, g1, List.mem_of_getElem? g1, g2⟩
      refine ⟨a, rfl, ⟨xs, ex_t hid_le h1⟩, lc_flat (K := K) (g := fun i => f (ds.getD i .none)) (p := fun i => p (ds.getD i .none)) walk_tup rfl (by rw [hlen]; exact hl) (kn.up (x1.trans x2)) (fun H3 x3 => ex_t x3 (ex_t hid_le h1)) ?_ ?_ ?_ ?_⟩
      · intro i x H3 hx x3
        obtain ⟨d, g1, g2, g3⟩ := at_ i x hx
        simp only [List.getD_eq_getElem?_getD, g1, Option.getD_some]
        exact hp d x H3 g2 ((x1.trans x2).trans x3) (g3.up x3)
      · intro i x H3 hx hpi x3
        obtain ⟨d, g1, g2, g3⟩ := at_ i x hx
        simp only [List.getD_eq_getElem?_getD, g1, Option.getD_some] at hpi ⊢
        exact he d x H3 g2 hpi ((x1.trans x2).trans x3) (g3.up x3)
      · intro i hi hpi
        have hi' : i < ds.length := by omega
        have g1 : ds[i]? = some ds[i] := List.getElem?_eq_getElem hi'
        simp only [List.getD_eq_getElem?_getD, g1, Option.getD_some] at hpi ⊢
        exact hf _ (List.getElem_mem hi') hpi
      · intro v H3 x3 hv
        refine q v H3 (x2.trans x3) ?_
        rw [hlen] at hv
        rw [range_filter_map f p ds _ _ fun i d hd => ⟨by simp only [List.getD_eq_getElem?_getD, hd, Option.getD_some], fun _ => by simp only [List.getD_eq_getElem?_getD, hd, Option.getD_some]⟩] at hv
        exact hv
theorem ed_lcL {k : Nat} {f : PyData → PyData} {p : PyData → Bool} (kn : Kn b H) (ha : ED K b ta σ H (.list ds)) (hl : ds.length < sizeLine)
    (hp : ∀ d v H3, d ∈ ds → Ex H H3 → Dq K b H3 v d → EvT tt ((wipe σ [k]).set k (some v)) H3 (p d))
    (he : ∀ d v H3, d ∈ ds → p d = true → Ex H H3 → Dq K b H3 v d → ED K b te ((wipe σ [k]).set k (some v)) H3 (f d)) (hf : ∀ d ∈ ds, p d = true → flatP (f d) = true) :
    ED K b (tLc (iList K ta) (gName k) tt te [k]) σ H (.list ((ds.filter p).map f)) := fun H1 x1 Q q =>
  ha H1 x1 _ fun x H2 x2 hx => by
    cases hx with
    | @lst a xs _ h1 h2 =>
      have hlen := dps_len h2
      have at_ : ∀ i x, xs[i]? = some x → ∃ d, ds[i]? = some d ∧ d ∈ ds ∧ Dq K b H2 x d := fun i x hx => by
        obtain ⟨d, g1, g2⟩ := dps_at h2 hx
        exact ⟨d, g1, List.mem_of_getElem? g1, g2⟩
      refine ⟨a, rfl, ⟨xs, ex_l hid_le h1⟩, lc_flat (K := K) (g := fun i => f (ds.getD i .none)) (p := fun i => p (ds.getD i .none)) walk_list rfl (by rw [hlen]; exact hl) (kn.up (x1.trans x2)) (fun H3 x3 => ex_l x3 (ex_l hid_le h1)) ?_ ?_ ?_ ?_⟩
      · intro i x H3 hx x3
        obtain ⟨d, g1, g2, g3⟩ := at_ i x hx
        simp only [List.getD_eq_getElem?_getD, g1, Option.getD_some]
        exact hp d x H3 g2 ((x1.trans x2).trans x3) (g3.up x3)
      · intro i x H3 hx hpi x3
        obtain ⟨d, g1, g2, g3⟩ := at_ i x hx
        simp only [List.getD_eq_getElem?_getD, g1, Option.getD_some] at hpi ⊢
        exact he d x H3 g2 hpi ((x1.trans x2).trans x3) (g3.up x3)
      · intro i hi hpi
        have hi' : i < ds.length := by omega
        have g1 : ds[i]? = some ds[i] := List.getElem?_eq_getElem hi'
        simp only [List.getD_eq_getElem?_getD, g1, Option.getD_some] at hpi ⊢
        exact hf _ (List.getElem_mem hi') hpi
      · intro v H3 x3 hv
        refine q v H3 (x2.trans x3) ?_
        rw [hlen] at hv
        rw [range_filter_map f p ds _ _ fun i d hd => ⟨by simp only [List.getD_eq_getElem?_getD, hd, Option.getD_some], fun _ => by simp only [List.getD_eq_getElem?_getD, hd, Option.getD_some]⟩] at hv
        exact hv
theorem filter_yes {α β : Type} (xs : List α) (f : α → β) : (xs.filter fun _ => true).map f = xs.map f := by
  rw [List.filter_eq_self.mpr fun _ _ => rfl]
theorem ed_lcT1 {k : Nat} {f : PyData → PyData} (kn : Kn b H) (ha : ED K b ta σ H (.tuple ds)) (hl : ds.length < sizeLine)
    (he : ∀ d v H3, d ∈ ds → Ex H H3 → Dq K b H3 v d → ED K b te ((wipe σ [k]).set k (some v)) H3 (f d)) (hf : ∀ d ∈ ds, flatP (f d) = true) :
    ED K b (tLc (iTup K ta) (gName k) tYes te [k]) σ H (.list (ds.map f)) :=
  (ed_lcT (p := fun _ => true) kn ha hl (fun _ _ _ _ _ _ => et_yes) (fun d v H3 h _ x hd => he d v H3 h x hd) fun d h _ => hf d h).to (by rw [filter_yes])
theorem ed_lcL1 {k : Nat} {f : PyData → PyData} (kn : Kn b H) (ha : ED K b ta σ H (.list ds)) (hl : ds.length < sizeLine)
    (he : ∀ d v H3, d ∈ ds → Ex H H3 → Dq K b H3 v d → ED K b te ((wipe σ [k]).set k (some v)) H3 (f d)) (hf : ∀ d ∈ ds, flatP (f d) = true) :
    ED K b (tLc (iList K ta) (gName k) tYes te [k]) σ H (.list (ds.map f)) :=
  (ed_lcL (p := fun _ => true) kn ha hl (fun _ _ _ _ _ _ => et_yes) (fun d v H3 h _ x hd => he d v H3 h x hd) fun d h _ => hf d h).to (by rw [filter_yes])
/-- over the signs of a text, with a test -/
theorem ed_lcS {k : Nat} {z : Str} {p : Nat → Bool} (hk : k < σ.length) (kn : Kn b H) (ha : ED K b ta σ H (.str z)) (hl : z.length < sizeLine)
    (hp : ∀ c H3, c ∈ z.cps.toList → Ex H H3 → EvT tt ((wipe σ [k]).set k (some (.str ⟨#[c]⟩))) H3 (p c)) :
    ED K b (tLc (iStr ta) (gName k) tt (tVar k) [k]) σ H (.list ((z.cps.toList.filter p).map fun c => .str ⟨#[c]⟩)) := fun H1 x1 Q q =>
  ha H1 x1 _ fun x H2 x2 hx => by
    cases hx
    have hsz : z.cps.size = (z.cps.toList.map fun c => V.str ⟨#[c]⟩).length := by rw [List.length_map, Array.length_toList]
    have wk : Walk (Its z) z.cps.size (fun _ => True) (YAt (z.cps.toList.map fun c => V.str ⟨#[c]⟩)) := walk_str.mono (fun _ _ => trivial) fun i H x H' _ _ ⟨e, c, h1, h2⟩ => ⟨e, by
      rw [List.getElem?_map, Array.getElem?_toList, h1, h2]
      rfl⟩
    have at_ : ∀ i x, (z.cps.toList.map fun c => V.str ⟨#[c]⟩)[i]? = some x → ∃ c, z.cps.toList[i]? = some c ∧ x = V.str ⟨#[c]⟩ := fun i x hx => by
      rw [List.getElem?_map] at hx
      cases e : z.cps.toList[i]? with
      | none => rw [e] at hx; cases hx
      | some c =>
        rw [e] at hx
        exact ⟨c, e, (Option.some.inj hx).symm⟩
    refine ⟨z, rfl, lc_flat (K := K) (g := fun i => .str ⟨#[z.cps.toList.getD i 0]⟩) (p := fun i => p (z.cps.toList.getD i 0)) wk hsz (show z.cps.size < _ from hl) (kn.up (x1.trans x2)) (fun _ _ => trivial) ?_ ?_ ?_ ?_⟩
    · intro i x H3 hx x3
      obtain ⟨c, g1, rfl⟩ := at_ i x hx
      simp only [List.getD_eq_getElem?_getD, g1, Option.getD_some]
      exact hp c H3 (List.mem_of_getElem? g1) ((x1.trans x2).trans x3)
    · intro i x H3 hx hpi x3
      obtain ⟨c, g1, rfl⟩ := at_ i x hx
      simp only [List.getD_eq_getElem?_getD, g1, Option.getD_some]
      refine ed_var ?_ (.str _)
      show ((σ.set k none).set k _)[k]? = _
      rw [List.getElem?_set_self (by rw [List.length_set]; exact hk)]
    · intro i hi _
      rfl
    · intro v H3 x3 hv
      refine q v H3 (x2.trans x3) ?_
      have e0 : z.cps.size = z.cps.toList.length := by rw [Array.length_toList]
      rw [e0] at hv
      rw [range_filter_map (fun c => PyData.str ⟨#[c]⟩) p z.cps.toList _ _ fun i d hd => ⟨by simp only [List.getD_eq_getElem?_getD, hd, Option.getD_some], fun _ => by simp only [List.getD_eq_getElem?_getD, hd, Option.getD_some]⟩] at hv
      exact hv
end
end Wr

set_option Elab.async false
set_option linter.all false
set_option maxRecDepth 100000
set_option maxHeartbeats 8000000
namespace Wr
open PySem PySem.Spec PyProof.Rows L2 Evl

/-! ### set(texts) -/
/-- each once, as first met -/
def uqStep (acc : List Str) (x : Str) : List Str := if x ∈ acc then acc else acc ++ [x]
def uq (xs : List Str) : List Str := xs.foldl uqStep []
theorem uq_snoc (xs : List Str) (x : Str) : uq (xs ++ [x]) = uqStep (uq xs) x := by
  unfold uq
  rw [List.foldl_append]
  rfl
theorem uq_le : ∀ (xs acc : List Str), (xs.foldl uqStep acc).length ≤ acc.length + xs.length
  | [], acc => Nat.le_refl _
  | x :: xs, acc => by
    have ih := uq_le xs (uqStep acc x)
    have h1 : (uqStep acc x).length ≤ acc.length + 1 := by
      unfold uqStep
      split
      · omega
      · rw [List.length_append]; exact Nat.le_refl _
    rw [List.foldl_cons, List.length_cons]
    omega
theorem uq_length_le (xs : List Str) : (uq xs).length ≤ xs.length := by
  have := uq_le xs []
  rw [List.length_nil, Nat.zero_add] at this
  exact this
theorem uq_mem_acc : ∀ (xs acc : List Str) (y : Str), y ∈ xs.foldl uqStep acc ↔ y ∈ acc ∨ y ∈ xs
  | [], acc, y => by simp
  | x :: xs, acc, y => by
    rw [List.foldl_cons, uq_mem_acc xs (uqStep acc x) y, List.mem_cons]
    unfold uqStep
    split
    · constructor
      · rintro (h | h)
        · exact .inl h
        · exact .inr (.inr h)
      · rintro (h | rfl | h)
        · exact .inl h
        · exact .inl (by assumption)
        · exact .inr h
    · rw [List.mem_append, List.mem_singleton]
      constructor
      · rintro ((h | h) | h)
        · exact .inl h
        · exact .inr (.inl h)
        · exact .inr (.inr h)
      · rintro (h | h | h)
        · exact .inl (.inl h)
        · exact .inl (.inr h)
        · exact .inr h
theorem uq_mem (xs : List Str) (y : Str) : y ∈ uq xs ↔ y ∈ xs := by
  unfold uq
  rw [uq_mem_acc]
  simp
theorem uq_nodup_acc : ∀ (xs acc : List Str), acc.Nodup → (xs.foldl uqStep acc).Nodup
  | [], acc, h => h
  | x :: xs, acc, h => by
    rw [List.foldl_cons]
    refine uq_nodup_acc xs _ ?_
    unfold uqStep
    split
    · exact h
    · rename_i hx
      rw [List.nodup_append]
      refine ⟨h, by simp, fun a ha c hc => ?_⟩
      rw [List.mem_singleton] at hc
      intro e
      exact hx (hc ▸ e ▸ ha)
theorem uq_nodup (xs : List Str) : (uq xs).Nodup := uq_nodup_acc xs [] List.nodup_nil
theorem uq_all : ∀ (xs acc : List Str), (acc ++ xs).Nodup → xs.foldl uqStep acc = acc ++ xs
  | [], acc, _ => by simp
  | x :: xs, acc, h => by
    rw [List.foldl_cons]
    have hx : x ∉ acc := fun hm => by
      rw [List.nodup_append] at h
      exact h.2.2 x hm x List.mem_cons_self rfl
    have e : uqStep acc x = acc ++ [x] := if_neg hx
    rw [e, uq_all xs (acc ++ [x]) (by rw [List.append_assoc]; exact h), List.append_assoc]
    rfl
/-- as many as there are, just where no text stands twice -/
theorem uq_len_iff (xs : List Str) : (uq xs).length = xs.length ↔ xs.Nodup := by
  constructor
  · intro h
    have h1 := uq_nodup xs
    have sub : ∀ y ∈ xs, y ∈ uq xs := fun y hy => (uq_mem xs y).mpr hy
    by_cases hn : xs.Nodup
    · exact hn
    · exfalso
      have key : ∀ (xs acc : List Str), ¬ xs.Nodup → (xs.foldl uqStep acc).length < acc.length + xs.length := by
        intro xs
        induction xs with
        | nil => intro acc h; exact absurd List.nodup_nil h
        | cons x r ih =>
          intro acc h
          rw [List.foldl_cons, List.length_cons]
          by_cases hx : x ∈ acc
          · have e : uqStep acc x = acc := if_pos hx
            rw [e]
            have := uq_le r acc
            omega
          · have e : uqStep acc x = acc ++ [x] := if_neg hx
            by_cases hr : r.Nodup
            · have hxr : x ∈ r := by
                by_cases q : x ∈ r
                · exact q
                · exact absurd (List.nodup_cons.mpr ⟨q, hr⟩) h
              have low : ∀ (r acc : List Str) (x : Str), x ∈ acc → x ∈ r → (r.foldl uqStep acc).length < acc.length + r.length := by
                intro r
                induction r with
                | nil => intro acc x _ hm; cases hm
                | cons y r ih2 =>
                  intro acc x ha hm
                  rw [List.foldl_cons, List.length_cons]
                  by_cases hy : y ∈ acc
                  · have e : uqStep acc y = acc := if_pos hy
                    rw [e]
                    have := uq_le r acc
                    omega
                  · have e : uqStep acc y = acc ++ [y] := if_neg hy
                    rcases List.mem_cons.mp hm with rfl | hm
                    · exact absurd ha hy
                    · have := ih2 (acc ++ [y]) x (List.mem_append_left _ ha) hm
                      rw [e]
                      rw [List.length_append, List.length_singleton] at this
                      omega
              rw [e]
              have := low r (acc ++ [x]) x (by simp) hxr
              rw [List.length_append, List.length_singleton] at this
              omega
            · have := ih (acc ++ [x]) hr
              rw [e]
              rw [List.length_append, List.length_singleton] at this
              omega
      have := key xs [] hn
      rw [List.length_nil, Nat.zero_add] at this
      unfold uq at h
      omega
  · intro h
    unfold uq
    rw [uq_all xs [] h]
    rfl
def inK (L : List Str) (k : Key) : Bool := L.any fun x => decide (k = Sum.inr x)
theorem inK_step (L : List Str) (x : Str) : (fun k => inK L k || decide (k = (Sum.inr x : Key))) = inK (uqStep L x) := by
  funext k
  unfold uqStep inK
  split
  · rename_i hx
    by_cases e : k = Sum.inr x
    · have : (L.any fun x => decide (k = Sum.inr x)) = true := List.any_eq_true.mpr ⟨x, hx, decide_eq_true e⟩
      rw [this]
      rfl
    · rw [decide_eq_false e, Bool.or_false]
  · rw [List.any_append]
    simp
theorem inK_self (L : List Str) (x : Str) : inK L (Sum.inr x) = decide (x ∈ L) := by
  unfold inK
  by_cases h : x ∈ L
  · rw [decide_eq_true h]
    exact List.any_eq_true.mpr ⟨x, h, decide_eq_true rfl⟩
  · rw [decide_eq_false h]
    apply Bool.eq_false_iff.mpr
    intro q
    obtain ⟨y, hy, e⟩ := List.any_eq_true.mp q
    have e1 := of_decide_eq_true e
    cases e1
    exact h hy
section
variable {prog : Program} {w : World} {A : Around} {R : Result → Shared → Prop} {I : Addr} {fp wr : List Addr} {G : Array GenState → Array GenState → Prop} {n : Nat} {P : Nat → Value → Prop} {St : Nat → Shared → Prop}
/-- the loop that fills a set of texts -/
theorem fill_texts (W : WalksS prog w A.in1 I fp wr G n P St) (S : Addr) (hSf : S ∉ fp) (xs : List Str) (hsz : xs.length = n) (hn1 : n + 1 < scanBound)
    (hval : ∀ i v, P i v → ∃ x t, xs[i]? = some x ∧ v = .str x t) : ∀ (k i : Nat) (s : Shared), n - i = k → i ≤ n → St i s →
      s.heap.SetOf (mixKind prog w) S (inK (uq (xs.take i))) (uq (xs.take i)).length →
      (∀ s', Moved (S :: wr) G s s' → s'.heap.SetOf (mixKind prog w) S (inK (uq xs)) (uq xs).length → R (.ok (.ret .none)) s') →
      codeAny (model prog w) A (.builtin "set.update.loop" ⟨[.ref S, .ref I], []⟩) R s := by
  have out : S ∉ wr := fun h => hSf (W.sub _ h)
  have more : ∀ c ∈ wr, c ∈ S :: wr := fun c hc => List.mem_cons_of_mem _ hc
  intro k
  induction k with
  | zero =>
    intro i s hk hi hst hS hR
    obtain rfl : i = n := by omega
    refine codeAny_builtin PyProof.Rows.F.entry_set_update_loop ?_
    rw [Around.under_plainId PyProof.Rows.F.plain_set_update_loop _]
    show wpAny _ A.in1 (pyNext (.ref I) >>= _) _ _ s
    refine wpAny_bind (W.done s _ _ hst fun s' hm => ?_)
    show wpAny _ A.in1 (ret Value.none) _ _ s'
    refine wpAny_pure (hR s' (hm.mono more) ?_)
    rw [List.take_of_length_le (by omega)] at hS
    obtain ⟨o, es, ep, t, ho, rest⟩ := hS
    exact ⟨o, es, ep, t, hm.heap S _ out ho, rest⟩
  | succ k ih =>
    intro i s hk hi hst hS hR
    have hlt : i < n := by omega
    refine codeAny_builtin PyProof.Rows.F.entry_set_update_loop ?_
    rw [Around.under_plainId PyProof.Rows.F.plain_set_update_loop _]
    show wpAny _ A.in1 (pyNext (.ref I) >>= _) _ _ s
    refine wpAny_bind (W.item i s _ _ hlt hst fun v s' hP hst' hm => ?_)
    obtain ⟨x, t, hx, rfl⟩ := hval i v hP
    have hS' : s'.heap.SetOf (mixKind prog w) S (inK (uq (xs.take i))) (uq (xs.take i)).length := by
      obtain ⟨o, es, ep, tb, ho, rest⟩ := hS
      exact ⟨o, es, ep, tb, hm.heap S _ out ho, rest⟩
    show wpAny _ A.in1 (holding [Value.str x t] (setAdd S (.str x t)) >>= _) _ _ s'
    refine wpAny_bind (wpAny_holding ?_)
    unfold setAdd
    refine wpAny_holding (wpAny_bind ((mixKind prog w).pyHash (k := Sum.inr x) (mixKind_str _ _ _ _) ?_))
    have room : (uq (xs.take i)).length + 1 < scanBound := by
      have h1 := uq_length_le (xs.take i)
      rw [List.length_take] at h1
      omega
    refine wpAny_setAddHashed_of (knd := mixKind prog w) (k := Sum.inr x) (s := { s' with toks := s'.toks + 1 }) (mixKind_str _ _ _ _) rfl hS' room fun h' hsb hS2 => ?_
    have et : xs.take (i + 1) = xs.take i ++ [x] := by
      rw [List.take_add_one, hx]
      rfl
    have hSi : h'.SetOf (mixKind prog w) S (inK (uq (xs.take (i + 1)))) (uq (xs.take (i + 1))).length := by
      rw [inK_step, inK_self] at hS2
      rw [et, uq_snoc]
      have el : (if decide (x ∈ uq (xs.take i)) = true then (uq (xs.take i)).length else (uq (xs.take i)).length + 1) = (uqStep (uq (xs.take i)) x).length := by
        unfold uqStep
        by_cases h : x ∈ uq (xs.take i)
        · rw [decide_eq_true h, if_pos rfl, if_pos h]
        · rw [decide_eq_false h, if_neg Bool.false_ne_true, if_neg h, List.length_append]
          rfl
      rw [el] at hS2
      exact hS2
    refine wpAny_pure ⟨plainId_quiet PyProof.Rows.F.plain_set_update_loop _, ih (i + 1) _ (by omega) hlt (W.frame _ s' _ _ hst' (Nat.le_succ _) fun c hc o e => ?_) hSi fun s'' hm'' hS'' => ?_⟩
    · have nc : c ≠ S := fun h => hSf (h ▸ hc)
      rw [hsb.2 c nc]
      exact e
    · refine hR s'' (Moved.trans W.gtrans ((hm.mono more).then_heap (Nat.le_succ _) fun c o hc e => ?_) hm'') hS''
      have nc : c ≠ S := fun h => hc (by rw [h]; exact List.mem_cons_self)
      rw [hsb.2 c nc]
      exact e
end
end Wr

set_option Elab.async false
set_option linter.all false
set_option maxRecDepth 100000
set_option maxHeartbeats 8000000
namespace Wr
open PySem PySem.Spec PyProof.Rows L2 Evl
abbrev freshSet (led : Bool) : Obj := { cls := .type "set", dict := none, data := .set #[] 0 (.fresh 0 0 led) }
section
variable {prog : Program} {w : World} {A : Around} {E : Value → Shared → Prop} {s : Shared}
/-- what set(v) asks of v: its type, its iterator -/
structure SetSrc (prog : Program) (w : World) (T : String) (l : Addr) (xs : List Str) (s : Shared) : Prop where
  sub1 : isSubtype (.type T) (.type "set") = pure false
  sub2 : isSubtype (.type T) (.type "frozenset") = pure false
  nd : (Value.type T == Value.type "dict") = false
  ob : ∃ o, s.heap.get? l = some o ∧ o.cls = .type T
  it : ∀ (A : Around) (led : Bool) (Q : Value → Shared → Prop) (E : Value → Shared → Prop), A.handled = none →
    (∀ (s2 : Shared) (I : Addr) (fp wr : List Addr) (G : Array GenState → Array GenState → Prop) (P : Nat → Value → Prop) (St : Nat → Shared → Prop), (∀ a, G a a) → (∀ a b, G a b → b = a) → WalksS prog w A.in1 I fp wr G xs.length P St → St 0 s2 →
      s.heap.objs.size ∉ fp → (∀ b o, (s.heap.push (freshSet led)).get? b = some o → s2.heap.get? b = some o) → (∀ b ∈ wr, s.heap.objs.size < b) →
      (∀ i v, P i v → ∃ x t, xs[i]? = some x ∧ v = .str x t) → s2.gens = s.gens ∧ s2.drawn = s.drawn ∧ s2.os = s.os → Q (.ref I) s2) →
    wpAny (model prog w) A (pyIter (.ref l)) Q E { s with heap := s.heap.push (freshSet led) }
theorem set_call {T : String} {l : Addr} {xs : List Str} {Q : Value → Shared → Prop} (hh : A.handled = none) (src : SetSrc prog w T l xs s) (hn : xs.length + 1 < scanBound)
    (h : ∀ (h' : Heap) (tk : Nat), h'.SetOf (mixKind prog w) s.heap.objs.size (inK (uq xs)) (uq xs).length →
      (∀ b o, b < s.heap.objs.size → s.heap.get? b = some o → h'.get? b = some o) → Q (.ref s.heap.objs.size) { s with heap := h', toks := tk }) :
    wpAny (model prog w) A (call (.type "set") [.ref l]) Q E s := by
  obtain ⟨c, tl, hmro⟩ := PySem.F.called_set.mro
  have m1 := PySem.F.called_set.made
  have m2 := PySem.F.called_set.sub
  refine wpAny_call (codeAny_of_tree ?_)
  show wpAny _ _ (callAny (.type "set") _) _ _ _
  refine wpAny_pure ⟨Code.quiet_builtin _ (by decide +kernel), codeAny_builtin PySem.F.entry_type_call ?_⟩
  rw [Around.under_plain (weight_type_call_type "set" [.ref l] []) rfl]
  have m3 := PySem.F.called_set.notType
  have m4 := PySem.F.called_set.canCreate
  have m5 := PySem.F.typeCall_set_1 (.ref l)
  repeat (any_goals (first | assumption | wp_step))
  refine codeAny_mono (code_set_new_1 (.ref l) (E := E) (Q₁ := fun obj s₁ => ∃ led : Bool, obj = .ref s.heap.objs.size ∧
    s₁ = { s with heap := s.heap.push (freshSet led) }) fun led => ⟨led, rfl, rfl⟩) fun r s₁ hr => ?_
  cases r with
  | error e => exact hr
  | ok fl =>
    cases fl with
    | ret obj =>
      obtain ⟨led, rfl, rfl⟩ := hr
      have hS : (s.heap.push (freshSet led)).get? s.heap.objs.size = some (freshSet led) := Heap.get?_push_size _ rfl
      have hT : Shared.TypeIs { s with heap := s.heap.push (freshSet led) } (.ref s.heap.objs.size) "set" := ⟨_, hS, rfl⟩
      have m6 := PySem.F.called_set.init.lookup
      have m7 := PySem.F.called_set.init.bind (.ref s.heap.objs.size)
      repeat (any_goals (first | assumption | wp_step))
      refine codeAny_mono (codeAny_call_builtin (R := wants (fun r s₂ => r = .none ∧ ∃ h' tk, s₂ = { s with heap := h', toks := tk } ∧
          h'.SetOf (mixKind prog w) s.heap.objs.size (inK (uq xs)) (uq xs).length ∧ ∀ b o, b < s.heap.objs.size → s.heap.get? b = some o → h'.get? b = some o) E)
        PySem.F.called_set.init.plain PySem.F.entry_set_init (check_set_init_1 hT ?_)) fun r₂ s₂ hr₂ => ?_
      · obtain ⟨⟨ocls, odict, odata, oslots⟩, hol, hcl⟩ := src.ob
        simp only at hcl
        subst hcl
        have hol' : (s.heap.push (freshSet led)).get? l = some { cls := .type T, dict := odict, data := odata, slots := oslots } := Heap.get?_push_of_some _ hol
        have m8 := src.sub1
        have m9 := src.sub2
        have m10 := src.nd
        unfold Builtin.«set.__init__» noKeywords Builtin.Frozenset.updateFrom
        generalize hPI : pyIter = PI
        wp_walk
        subst hPI
        refine src.it _ led _ _ (by simp [hh]) fun s2 I fp wr G P St g1 g2 W st hS2 k2 hw hval hsame => ?_
        refine wpAny_bind (wpAny_runValue ?_)
        refine fill_texts W s.heap.objs.size hS2 xs rfl hn hval (xs.length - 0) 0 _ (by omega) (Nat.zero_le _) st ?hS0 ?hR
        case hS0 =>
          have g0 : s2.heap.get? s.heap.objs.size = some (freshSet led) := k2 _ _ hS
          show s2.heap.SetOf (mixKind prog w) s.heap.objs.size (fun _ => false) 0
          exact ⟨_, #[], 0, _, g0, ⟨rfl, rfl, rfl⟩, rfl, fun e he => by simp at he, fun k => by simp, by decide, by rfl, rfl⟩
        case hR =>
          intro s' hm hS'
          obtain ⟨hp', g', d', tk', os'⟩ := s'
          obtain ⟨q1, q2, q3⟩ := hsame
          have eg : g' = s.gens := (g2 _ _ hm.gens).trans q1
          have ed : d' = s.drawn := hm.drawn.trans q2
          have eo : os' = s.os := hm.os.trans q3
          subst eg ed eo
          refine wpAny_pure ?_
          show wpAny _ _ (ret Value.none) _ _ _
          refine wpAny_pure ⟨rfl, hp', tk', rfl, hS', fun b o hb e => ?_⟩
          refine hm.heap b o (fun hmem => ?_) (k2 b o (Heap.get?_push_of_some _ e))
          rcases List.mem_cons.mp hmem with z | z
          · exact absurd (z ▸ hb) (Nat.lt_irrefl _)
          · exact absurd (hw b z) (Nat.not_lt.mpr (Nat.le_of_lt hb))
      · cases r₂ with
        | error e => exact hr₂
        | ok fl₂ =>
          cases fl₂ with
          | ret r =>
            obtain ⟨rfl, h', tk, rfl, hS', hk'⟩ := hr₂
            repeat (any_goals (first | assumption | wp_step))
            exact h _ _ hS' hk'
          | _ => exact hr₂.elim
    | _ => exact hr.elim
end
end Wr

set_option Elab.async false
set_option linter.all false
set_option maxRecDepth 100000
set_option maxHeartbeats 8000000
namespace Wr
open PySem PySem.Spec PyProof.Rows L2 Evl
theorem strs_val : ∀ {xs : List Str} {us : List Value} {i : Nat} {v : Value}, Vals (xs.map V.str) us → us[i]? = some v → ∃ x t, xs[i]? = some x ∧ v = .str x t
  | [], _, i, v, .nil, h => by simp at h
  | x :: xs, _, 0, v, .cons r _, h => by
    obtain ⟨t, e⟩ := r
    have h' := Option.some.inj h
    exact ⟨x, t, rfl, by rw [← h', e]⟩
  | x :: xs, _, i + 1, v, .cons _ r, h => by
    obtain ⟨y, t, h1, h2⟩ := strs_val r (i := i) (v := v) h
    exact ⟨y, t, h1, h2⟩
section
variable {prog : Program} {w : World} {A : Around} {E : Value → Shared → Prop} {s : Shared}
theorem src_list {l : Addr} {items : Array Value} {xs : List Str} (hl : s.heap.IsList l items) (hi : Vals (xs.map V.str) items.toList) : SetSrc prog w "list" l xs s where
  sub1 := PySem.F.sub_list_set
  sub2 := PySem.F.sub_list_frozenset
  nd := by decide
  ob := by
    obtain ⟨o, ho, hc, _⟩ := hl
    exact ⟨o, ho, hc⟩
  it := fun A led Q E hh k => by
    have hl1 : (s.heap.push (freshSet led)).IsList l items := by
      obtain ⟨o, ho, r⟩ := hl
      exact ⟨o, Heap.get?_push_of_some _ ho, r⟩
    have hls : l < s.heap.objs.size := by
      obtain ⟨o, ho, _⟩ := hl
      exact Heap.lt_size ho
    refine wpAny_pyIter_list hl1 ?_
    have hz : (s.heap.push (freshSet led)).objs.size = s.heap.objs.size + 1 := Heap.size_push ..
    have hne : l ≠ (s.heap.push (freshSet led)).objs.size := by
      rw [hz]
      exact Nat.ne_of_lt (Nat.lt_succ_of_lt hls)
    have hlen : xs.length = items.size := by
      have := hi.length
      rw [List.length_map, Array.length_toList] at this
      exact this
    have W := ((Walks.list (prog := prog) (w := w) (A := A.in1) hh _ l hne items).toS)
    rw [← hlen] at W
    refine k _ _ _ _ (fun a b => b = a) _ _ (fun _ => rfl) (fun _ _ e => e) W ?_ ?_ (fun b o e => Heap.get?_push_of_some _ e) ?_ ?_ ⟨rfl, rfl, rfl⟩
    · exact ⟨⟨_, Heap.get?_push_size _ rfl, rfl, rfl⟩, hl1.push _⟩
    · rw [hz]
      simp only [List.mem_cons, List.not_mem_nil, or_false, not_or]
      exact ⟨Nat.ne_of_lt (Nat.lt_succ_self _), Nat.ne_of_gt hls⟩
    · intro b hb
      rw [hz] at hb
      rw [List.mem_singleton.mp hb]
      exact Nat.lt_succ_self _
    · intro i v hv
      have hv' : items.toList[i]? = some v := by
        rw [Array.getElem?_toList]
        exact hv
      exact strs_val hi hv'
theorem src_tuple {l : Addr} {items : Array Value} {xs : List Str} (hl : s.heap.IsTuple l items) (hi : Vals (xs.map V.str) items.toList) : SetSrc prog w "tuple" l xs s where
  sub1 := PySem.F.sub_tuple_set
  sub2 := PySem.F.sub_tuple_frozenset
  nd := by decide
  ob := by
    obtain ⟨o, ho, hc, _⟩ := hl
    exact ⟨o, ho, hc⟩
  it := fun A led Q E hh k => by
    have hl1 : (s.heap.push (freshSet led)).IsTuple l items := by
      obtain ⟨o, ho, r⟩ := hl
      exact ⟨o, Heap.get?_push_of_some _ ho, r⟩
    have hls : l < s.heap.objs.size := by
      obtain ⟨o, ho, _⟩ := hl
      exact Heap.lt_size ho
    refine wpAny_pyIter_tuple hl1 ?_
    have hz : (s.heap.push (freshSet led)).objs.size = s.heap.objs.size + 1 := Heap.size_push ..
    have hne : l ≠ (s.heap.push (freshSet led)).objs.size := by
      rw [hz]
      exact Nat.ne_of_lt (Nat.lt_succ_of_lt hls)
    have hlen : xs.length = items.size := by
      have := hi.length
      rw [List.length_map, Array.length_toList] at this
      exact this
    have W := ((Walks.tuple (prog := prog) (w := w) (A := A.in1) hh _ l hne items).toS)
    rw [← hlen] at W
    refine k _ _ _ _ (fun a b => b = a) _ _ (fun _ => rfl) (fun _ _ e => e) W ?_ ?_ (fun b o e => Heap.get?_push_of_some _ e) ?_ ?_ ⟨rfl, rfl, rfl⟩
    · exact ⟨⟨_, Heap.get?_push_size _ rfl, rfl, rfl⟩, hl1.push _⟩
    · rw [hz]
      simp only [List.mem_cons, List.not_mem_nil, or_false, not_or]
      exact ⟨Nat.ne_of_lt (Nat.lt_succ_self _), Nat.ne_of_gt hls⟩
    · intro b hb
      rw [hz] at hb
      rw [List.mem_singleton.mp hb]
      exact Nat.lt_succ_self _
    · intro i v hv
      have hv' : items.toList[i]? = some v := by
        rw [Array.getElem?_toList]
        exact hv
      exact strs_val hi hv'
end
/-! ### the rules -/
def rSetS (K : PySem.W.Frag) (P : Program) (w : World) : List V → Hp → VK → Prop := fun vs H Q => ∃ l, ∃ xs : List Str, vs = [.ref l] ∧ (SqL K H l (xs.map V.str) ∨ SqT K H l (xs.map V.str)) ∧ xs.length ≤ 1000 ∧
  ∀ p, H p = none → Q (.ref p) (upd H p (SetK P w p (inK (uq xs)) (uq xs).length))
theorem cr_setS {X : Cx} (hc : X.calm = true) : CallR X (.type "set") (rSetS X.K X.prog X.w) := by
  intro pins s σ H vs us Q I r h
  obtain ⟨l, xs, rfl, hq, hl, q⟩ := h
  rw [Vals.ref1 r]
  have hsc : xs.length + 1 < scanBound := by unfold scanBound; omega
  have fin : ∀ (h' : Heap) (tk : Nat), h'.SetOf (mixKind X.prog X.w) s.heap.objs.size (inK (uq xs)) (uq xs).length →
      (∀ b o, b < s.heap.objs.size → s.heap.get? b = some o → h'.get? b = some o) → EP X pins σ Q (.ref s.heap.objs.size) { s with heap := h', toks := tk } := fun h' tk new k =>
    ⟨.ref _, upd H s.heap.objs.size (SetK X.prog X.w s.heap.objs.size (inK (uq xs)) (uq xs).length), I.laid (t' := tk) (fun b u e => k b u (Heap.lt_size e) e) (Nat.le_refl _) (setK_new new), rfl, q _ (I.hok.fresh (Nat.le_refl _))⟩
  rcases hq with hq | hq
  · obtain ⟨its, rv, pl, hz⟩ := I.list hq
    exact set_call (I.ok.hd hc) (src_list pl.isList (by simpa using rv)) hsc fin
  · obtain ⟨its, rv, pl, hz⟩ := I.tuple hq
    exact set_call (I.ok.hd hc) (src_tuple pl (by simpa using rv)) hsc fin
def rLenK (P : Program) (w : World) : List V → Hp → VK → Prop := fun vs H Q => ∃ a S n, vs = [.ref a] ∧ H a = some (SetK P w a S n) ∧ n ≤ 1000000 ∧ Q (.int (n : Nat)) H
theorem call_lenK {X : Cx} : CallR X (.builtin "len") (rLenK X.prog X.w) := by
  intro pins s σ H vs us Q I r h
  obtain ⟨a, S, n, rfl, ha, hn, q⟩ := h
  rw [Vals.ref1 r]
  obtain ⟨o, es, ep, t, ho, hex, hd, _, _, _, hf, hn'⟩ := setK_get I ha
  refine call_len_set ho hex hd hf (by rw [hn']; omega) ⟨.int (n : Nat), H, I.tok _, ⟨_, by rw [hn']⟩, q⟩
section
variable {K : PySem.W.Frag} {b : List Addr} {σ : L2.St} {H H' : Hp} {ta : TE} {P : Program} {w : World}
theorem ed_lenSet {d : PyData} {xs : List Str} (ha : ED K b ta σ H d) (hd : d = .list (xs.map PyData.str) ∨ d = .tuple (xs.map PyData.str)) (hl : xs.length ≤ 1000) :
    ED K b (tCB (rLenK P w) (tCons (tCB (rSetS K P w) (tCons ta tNil)) tNil)) σ H (.int ((uq xs).length : Nat)) := fun H1 x1 Q q =>
  ha H1 x1 _ fun x H2 x2 hx => by
    have hx' := hx.dd
    have fin : ∀ a, (SqL K H2 a (xs.map V.str) ∨ SqT K H2 a (xs.map V.str)) → x = .ref a → tCB (rLenK P w) (tCons (tCB (rSetS K P w) (tCons (tC x) tNil)) tNil) σ H2 Q := fun a hs e => by
      subst e
      refine ⟨a, xs, rfl, hs, hl, fun p hp => ⟨p, _, _, rfl, upd_same, ?_, q _ _ (x2.trans (Ex.new hp)) (.int _)⟩⟩
      have := uq_length_le xs
      omega
    rcases hd with rfl | rfl
    · cases hx' with
      | lst h1 h2 =>
        rw [dps_strs h2] at h1
        exact fin _ (.inl h1) rfl
    · cases hx' with
      | tup h1 _ h2 =>
        rw [dps_strs h2] at h1
        exact fin _ (.inr h1) rfl
end
end Wr

set_option Elab.async false
set_option linter.all false
set_option maxRecDepth 100000
set_option maxHeartbeats 4000000
namespace Wr
open PySem PySem.Spec PyProof.Rows L2 Evl
theorem pe_tyN {X : Cx} {x : Str} {T : String} {pos : Pos} (hg : Gl X x) (hm : X.mg x = none) (hv : bootBuiltins x = some (.type T)) (hn : x ≠ "__name__" := by decide) (hd : (x == ("__debug__" : Str)) = false := by decide) : PE X (.Name x pos) (tC (.ty T)) := pe_bltn hg hm hv rfl hn hd
theorem bt_int : bootBuiltins "int" = some (.type "int") := by decide +kernel
theorem bt_bool : bootBuiltins "bool" = some (.type "bool") := by decide +kernel
theorem bt_str : bootBuiltins "str" = some (.type "str") := by decide +kernel
theorem bt_tuple : bootBuiltins "tuple" = some (.type "tuple") := by decide +kernel
theorem bt_list : bootBuiltins "list" = some (.type "list") := by decide +kernel
theorem bt_set : bootBuiltins "set" = some (.type "set") := by decide +kernel
theorem bb_isinstance : bootBuiltins "isinstance" = some (.builtin "isinstance") := by decide +kernel
theorem bb_len : bootBuiltins "len" = some (.builtin "len") := by decide +kernel
theorem bb_all : bootBuiltins "all" = some (.builtin "all") := by decide +kernel
theorem bb_abs : bootBuiltins "abs" = some (.builtin "abs") := by decide +kernel
theorem bb_max : bootBuiltins "max" = some (.builtin "max") := by decide +kernel
theorem bb_min : bootBuiltins "min" = some (.builtin "min") := by decide +kernel
theorem bb_repr : bootBuiltins "repr" = some (.builtin "repr") := by decide +kernel
theorem bb_sorted : bootBuiltins "sorted" = some (.builtin "sorted") := by decide +kernel
/-- what a def of one, two, three, four data takes -/
theorem one_of {K : PySem.W.Frag} {H : Hp} {vs : List V} {ds : List PyData} (h : DdAll K H vs ds) (hl : ds.length = 1) : ∃ v d, vs = [v] ∧ ds = [d] ∧ Dd K H v d := by
  match ds, hl, h with
  | [d], _, .cons h1 .nil => exact ⟨_, d, rfl, rfl, h1⟩
theorem two_of {K : PySem.W.Frag} {H : Hp} {vs : List V} {ds : List PyData} (h : DdAll K H vs ds) (hl : ds.length = 2) : ∃ v v2 d d2, vs = [v, v2] ∧ ds = [d, d2] ∧ Dd K H v d ∧ Dd K H v2 d2 := by
  match ds, hl, h with
  | [d, d2], _, .cons h1 (.cons h2 .nil) => exact ⟨_, _, d, d2, rfl, rfl, h1, h2⟩
theorem four_of {K : PySem.W.Frag} {H : Hp} {vs : List V} {ds : List PyData} (h : DdAll K H vs ds) (hl : ds.length = 4) : ∃ v v2 v3 v4 d d2 d3 d4, vs = [v, v2, v3, v4] ∧ ds = [d, d2, d3, d4] ∧ Dd K H v d ∧ Dd K H v2 d2 ∧ Dd K H v3 d3 ∧ Dd K H v4 d4 := by
  match ds, hl, h with
  | [d, d2, d3, d4], _, .cons h1 (.cons h2 (.cons h3 (.cons h4 .nil))) => exact ⟨_, _, _, _, d, d2, d3, d4, rfl, rfl, h1, h2, h3, h4⟩
theorem spP_len {K : PySem.W.Frag} {n : Nat} {pre : List PyData → Prop} {f : List PyData → PyData} (hl : ∀ ds, pre ds → ds.length = n) {vs : List V} {H : Hp} {Q : VK} {E : XK} (h : spP K pre f vs H Q E) : vs.length = n := by
  obtain ⟨b, ds, _, hd, hp, _⟩ := h
  rw [dps_len hd, hl ds hp]
/-- data that are small enough to be looked at -/
structure Nice (d : PyData) : Prop where
  sh : SeqAt.shaped d = true
end Wr

set_option Elab.async false
set_option linter.all false
set_option maxRecDepth 100000
set_option maxHeartbeats 4000000
namespace Wr
open PySem PySem.Spec PyProof.Rows L2 Evl
/-! ### data within bounds -/
def okD : Nat → PyData → Bool
  | _, .none => true
  | _, .bool _ => true
  | _, .int i => decide (i.natAbs < 10 ^ 45)
  | _, .str x => PyData.strOk x && decide (x.length ≤ 1000)
  | n + 1, .list ds => decide (ds.length ≤ 1000) && ds.all (okD n)
  | n + 1, .tuple ds => decide (ds.length ≤ 1000) && ds.all (okD n)
  | _, _ => false
theorem lay_all : ∀ {ds : List PyData}, (∀ d ∈ ds, d.canLay0 = true) → PyData.canLayAll0 ds = true
  | [], _ => by simp only [PyData.canLayAll0]
  | d :: ds, h => by
    simp only [PyData.canLayAll0, h d List.mem_cons_self, lay_all fun e he => h e (List.mem_cons_of_mem _ he), Bool.and_self]
theorem depth_all {n : Nat} : ∀ {ds : List PyData}, (∀ d ∈ ds, d.depth ≤ n) → PyData.depthAll ds ≤ n
  | [], _ => by simp only [PyData.depthAll]; exact Nat.zero_le _
  | d :: ds, h => by
    have h1 := h d List.mem_cons_self
    have h2 := depth_all fun e he => h e (List.mem_cons_of_mem _ he)
    simp only [PyData.depthAll]
    omega
theorem show_all : ∀ {ds : List PyData}, (∀ d ∈ ds, d.showable = true) → PyData.showableAll ds = true
  | [], _ => by simp only [PyData.showableAll]
  | d :: ds, h => by
    simp only [PyData.showableAll, h d List.mem_cons_self, show_all fun e he => h e (List.mem_cons_of_mem _ he), Bool.and_self]
theorem log_small {i : Int} (h : i.natAbs < 10 ^ 45) : i.natAbs.log2 < 1920 := by
  by_cases h0 : i.natAbs = 0
  · rw [h0]; decide
  · have h1 : i.natAbs < 2 ^ 1920 := Nat.lt_trans h (by decide)
    exact (Nat.log2_lt h0).mpr h1
theorem ok_facts : ∀ (n : Nat) (d : PyData), okD n d = true → d.canLay0 = true ∧ d.depth ≤ n ∧ d.showable = true
  | _, .none, _ => by refine ⟨by simp only [PyData.canLay0], by simp only [PyData.depth]; exact Nat.zero_le _, by simp only [PyData.showable]⟩
  | _, .bool _, _ => by refine ⟨by simp only [PyData.canLay0], by simp only [PyData.depth]; exact Nat.zero_le _, by simp only [PyData.showable]⟩
  | n, .int i, h => by
    refine ⟨by simp only [PyData.canLay0], by simp only [PyData.depth]; exact Nat.zero_le _, ?_⟩
    have h' : decide (i.natAbs < 10 ^ 45) = true := by
      cases n <;> exact h
    simp only [PyData.showable]
    exact decide_eq_true (log_small (of_decide_eq_true h'))
  | n, .str x, h => by
    have h' : (PyData.strOk x && decide (x.length ≤ 1000)) = true := by cases n <;> exact h
    refine ⟨?_, by simp only [PyData.depth]; exact Nat.zero_le _, by simp only [PyData.showable]⟩
    simp only [PyData.canLay0]
    exact (Bool.and_eq_true_iff.mp h').1
  | 0, .list ds, h => by cases h
  | 0, .tuple ds, h => by cases h
  | n + 1, .list ds, h => by
    have h' := List.all_eq_true.mp (Bool.and_eq_true_iff.mp (show (decide (ds.length ≤ 1000) && ds.all (okD n)) = true from h)).2
    have q := fun d hd => ok_facts n d (h' d hd)
    refine ⟨?_, ?_, ?_⟩
    · simp only [PyData.canLay0]
      exact lay_all fun d hd => (q d hd).1
    · simp only [PyData.depth]
      exact Nat.succ_le_succ (depth_all fun d hd => (q d hd).2.1)
    · simp only [PyData.showable]
      exact show_all fun d hd => (q d hd).2.2
  | n + 1, .tuple ds, h => by
    have h' := List.all_eq_true.mp (Bool.and_eq_true_iff.mp (show (decide (ds.length ≤ 1000) && ds.all (okD n)) = true from h)).2
    have q := fun d hd => ok_facts n d (h' d hd)
    refine ⟨?_, ?_, ?_⟩
    · simp only [PyData.canLay0]
      exact lay_all fun d hd => (q d hd).1
    · simp only [PyData.depth]
      exact Nat.succ_le_succ (depth_all fun d hd => (q d hd).2.1)
    · simp only [PyData.showable]
      exact show_all fun d hd => (q d hd).2.2
  | 0, .dict _, h => by cases h
  | _ + 1, .dict _, h => by cases h
theorem ok_shaped {n : Nat} {d : PyData} (h : okD n d = true) (hn : n ≤ 64 := by omega) : SeqAt.shaped d = true := by
  obtain ⟨h1, h2, _⟩ := ok_facts n d h
  show (d.canLay0 && decide (d.depth ≤ 64)) = true
  rw [h1, decide_eq_true (by omega)]
  rfl
theorem ok_items {n : Nat} {ds : List PyData} (h : okD (n + 1) (.tuple ds) = true) : ∀ d ∈ ds, okD n d = true :=
  List.all_eq_true.mp (Bool.and_eq_true_iff.mp (show (decide (ds.length ≤ 1000) && ds.all (okD n)) = true from h)).2
theorem ok_itemsL {n : Nat} {ds : List PyData} (h : okD (n + 1) (.list ds) = true) : ∀ d ∈ ds, okD n d = true :=
  List.all_eq_true.mp (Bool.and_eq_true_iff.mp (show (decide (ds.length ≤ 1000) && ds.all (okD n)) = true from h)).2
theorem ok_len {n : Nat} {ds : List PyData} (h : okD n (.tuple ds) = true) : ds.length ≤ 1000 := by
  cases n with
  | zero => cases h
  | succ n => exact of_decide_eq_true (Bool.and_eq_true_iff.mp (show (decide (ds.length ≤ 1000) && ds.all (okD n)) = true from h)).1
theorem ok_lenL {n : Nat} {ds : List PyData} (h : okD n (.list ds) = true) : ds.length ≤ 1000 := by
  cases n with
  | zero => cases h
  | succ n => exact of_decide_eq_true (Bool.and_eq_true_iff.mp (show (decide (ds.length ≤ 1000) && ds.all (okD n)) = true from h)).1
theorem ok_str {n : Nat} {x : Str} (h : okD n (.str x) = true) : x.length ≤ 1000 := by
  have h' : (PyData.strOk x && decide (x.length ≤ 1000)) = true := by cases n <;> exact h
  exact of_decide_eq_true (Bool.and_eq_true_iff.mp h').2
theorem ok_mono : ∀ (n : Nat) (d : PyData), okD n d = true → okD (n + 1) d = true
  | _, .none, _ => rfl
  | _, .bool _, _ => rfl
  | n, .int i, h => by cases n <;> exact h
  | n, .str x, h => by cases n <;> exact h
  | 0, .list ds, h => by cases h
  | 0, .tuple ds, h => by cases h
  | n + 1, .list ds, h => by
    have h' : (decide (ds.length ≤ 1000) && ds.all (okD n)) = true := h
    show (decide (ds.length ≤ 1000) && ds.all (okD (n + 1))) = true
    rw [Bool.and_eq_true] at h' ⊢
    exact ⟨h'.1, List.all_eq_true.mpr fun d hd => ok_mono n d (List.all_eq_true.mp h'.2 d hd)⟩
  | n + 1, .tuple ds, h => by
    have h' : (decide (ds.length ≤ 1000) && ds.all (okD n)) = true := h
    show (decide (ds.length ≤ 1000) && ds.all (okD (n + 1))) = true
    rw [Bool.and_eq_true] at h' ⊢
    exact ⟨h'.1, List.all_eq_true.mpr fun d hd => ok_mono n d (List.all_eq_true.mp h'.2 d hd)⟩
  | 0, .dict _, h => by cases h
  | _ + 1, .dict _, h => by cases h
theorem ok_up {n m : Nat} {d : PyData} (h : okD n d = true) (hm : n ≤ m) : okD m d = true := by
  obtain ⟨k, rfl⟩ := Nat.exists_eq_add_of_le hm
  induction k with
  | zero => exact h
  | succ k ih => exact ok_mono _ _ (ih (Nat.le_add_right _ _))
theorem isD_tuple {d : PyData} (h : isD "tuple" d = true) : ∃ ds, d = .tuple ds := by
  cases d <;> first | exact ⟨_, rfl⟩ | (simp [isD, dTy, tyIs] at h)
theorem isD_list {d : PyData} (h : isD "list" d = true) : ∃ ds, d = .list ds := by
  cases d <;> first | exact ⟨_, rfl⟩ | (simp [isD, dTy, tyIs] at h)
theorem isD_str {d : PyData} (h : isD "str" d = true) : ∃ x, d = .str x := by
  cases d <;> first | exact ⟨_, rfl⟩ | (simp [isD, dTy, tyIs] at h)
/-! ### the program's own functions, on data -/
def wholeD (d : PyData) : Bool := isD "int" d && !isD "bool" d
theorem wholeD_int {d : PyData} (h : wholeD d = true) : ∃ i, d = .int i := by
  cases d <;> first | exact ⟨_, rfl⟩ | (simp [wholeD, isD, dTy, tyIs] at h)
def worthD (d : PyData) : Bool := match d with
  | .int i => decide (-1000000000000 ≤ i) && decide (i ≤ 1000000000000)
  | _ => false
def indexD (d : PyData) (n : Int) : Bool := match d with
  | .int i => decide (0 ≤ i) && decide (i < n)
  | _ => false
def nameS (x : Str) : Bool := decide (x.length ≤ 8) && (Txt.isascii x && (Txt.isalpha x && Txt.islower x))
def nameD (d : PyData) : Bool := match d with
  | .str x => nameS x
  | _ => false
def strsOf (ds : List PyData) : List Str := ds.filterMap fun d => match d with
  | .str x => some x
  | _ => none
def unlikeS (xs : List Str) : Bool := decide ((uq xs).length = xs.length)
def namesD (d : PyData) : Bool := match d with
  | .tuple ds => decide (ds.length ≤ 3) && (ds.all nameD && unlikeS (strsOf ds))
  | _ => false
def headedD (d : PyData) : Bool := match d with
  | .tuple [a, c, _] => nameD a && namesD c
  | _ => false
def fst (d : PyData) : PyData := match d with
  | .tuple (a :: _) => a
  | _ => .none
def thd (d : PyData) : PyData := match d with
  | .tuple (_ :: _ :: a :: _) => a
  | _ => .none
def headedAll (d : PyData) (most : Int) : Bool := match d with
  | .tuple ds => (decide (1 ≤ ds.length) && decide ((ds.length : Int) ≤ most)) && (ds.all headedD && unlikeS (strsOf (ds.map fst)))
  | _ => false
def loneW : List Str := ["add", "less", "times", "over", "same", "below", "twin", "swap", "away", "say", "back", "throw", "done", "lead", "turn"]
def nameW : List Str := ["get", "set", "look", "change"]
def rowW : List Str := ["go", "if", "try"]
def rowD (d : PyData) (at_ many : Int) (called : List Str) : Bool := match d with
  | .tuple [a] => inD a (loneW.map .str)
  | .tuple [a, c] =>
    if PyData.eqv a (.str "put") = true then worthD c
    else if inD a (nameW.map .str) = true then nameD c
    else if PyData.eqv a (.str "call") = true then inD c (called.map .str)
    else inD a (rowW.map .str) && (indexD c many && !(PyData.eqv a (.str "try") && PyData.eqv c (.int (at_ + 1))))
  | _ => false
def rowsD (d : PyData) (called : List Str) : Bool := match d with
  | .tuple ds => (decide (1 ≤ ds.length) && decide (ds.length ≤ 60)) && ((List.range ds.length).all fun i => rowD (ds.getD i .none) i ds.length called)
  | _ => false
def progD (d : PyData) : Bool := match d with
  | .tuple ds => headedAll (.tuple ds) 8 && ds.all fun p => rowsD (thd p) (strsOf (ds.map fst))
  | _ => false
end Wr

set_option Elab.async false
set_option linter.all false
set_option maxRecDepth 100000
set_option maxHeartbeats 4000000
namespace Wr
open PySem PySem.Spec PyProof.Rows L2 Evl
section
variable {K : PySem.W.Frag} {b : List Addr} {σ : L2.St} {H H' : Hp} {ta te : TE} {tt : TT} {d : PyData} {ds : List PyData}
theorem et_n {c : Bool} (h : EvT tt σ H c) : EvT (tNot tt) σ H (!c) := fun H1 x Q q => h H1 x _ fun H2 x2 => q H2 x2
theorem ed_m0 {C : Str → Prop} {g : Str → V} {x : Str} {z : PyData} (ha : ED K b ta σ H (.str x)) (hc : C x) (hz : ∀ H', Dq K b H' (g x) z) : ED K b (tBM0 K "str" (fun x xs H Q => ∃ a, x = .str a ∧ xs = [] ∧ C a ∧ Q (g a) H) ta) σ H z := fun H1 x1 Q q =>
  ha H1 x1 _ fun v H2 x2 hv => by
    cases hv
    exact ⟨rfl, x, rfl, rfl, hc, q _ H2 x2 (hz _)⟩
end
theorem pe_gI {X : Cx} {x : Str} {i : Int} {t : Tok} {pos : Pos} (hm : X.mg x = some (.int i t)) (hg : Gl X x := by rfl) (hd : (x == ("__debug__" : Str)) = false := by decide) : PE X (.Name x pos) (tC (.int i)) := pe_glob hg hm ⟨t, rfl⟩ hd
theorem pe_gR {X : Cx} {x : Str} {a : Addr} {pos : Pos} (hm : X.mg x = some (.ref a)) (hg : Gl X x := by rfl) (hd : (x == ("__debug__" : Str)) = false := by decide) : PE X (.Name x pos) (tC (.ref a)) := pe_glob hg hm rfl hd
/-- the built-ins that the text uses are still the built-ins -/
structure Blt (mg : Str → Option Value) : Prop where
  isi : mg "isinstance" = none
  len : mg "len" = none
  all : mg "all" = none
  enum : mg "enumerate" = none
  set : mg "set" = none
  int : mg "int" = none
  bool : mg "bool" = none
  str : mg "str" = none
  tuple : mg "tuple" = none
  list : mg "list" = none
  range : mg "range" = none
/-- a def of the text -/
structure Def (K : PySem.W.Frag) (mg : Str → Option Value) (x : Str) (st : Stmt) (ps : List Str) (f : Addr) (fd : FuncData) : Prop where
  F : Fun K x x st f fd
  b : Binds K fd ps []
  m : mg x = some (.ref f)
theorem pe_cd {X : Cx} {x : Str} {st : Stmt} {k : Nat} {ps : List Str} {sp : Sp} {f : Addr} {fd : FuncData} {p pos : Pos} {e : Expr} {es : List Expr} {t : TA} (D : Def X.K X.mg x st ps f fd) (G : FnOk X.prog X.w X.K X.mg X.base CX0 k f fd ps sp) (hr : Room k X.A) (ha : PA X (e :: es) t)
    (hg : Gl X x := by rfl) (hdb : (x == ("__debug__" : Str)) = false := by decide) (he : starEach (e :: es) X.env = (false, eval e X.env) :: starEach es X.env := by rfl) (hpl : (backTo pos (starEach es X.env)).any (·.1) = false := by rfl) :
    PE X (.Call (.Name x p) (e :: es) [] pos) (tCall sp [] E0 t) := pe_call G hr hg D.m D.F.kp D.b .nil pass0 ha hdb he hpl
def topS (i : Nat) : Stmt := PySem.Challenge.pw_watchedrun_k70_no_programs.main.body.getD i (.Pass ⟨0, 0, 0, 0⟩)
abbrev s_is_whole : Stmt := topS 4
abbrev s_is_worth : Stmt := topS 5
abbrev s_is_index : Stmt := topS 6
abbrev s_is_name : Stmt := topS 7
abbrev s_are_names : Stmt := topS 8
abbrev s_are_unlike : Stmt := topS 9
abbrev s_is_headed : Stmt := topS 10
abbrev s_are_headed : Stmt := topS 11
theorem sc_is_whole : FnScope ["thing"] ["thing"] (defScope s_is_whole) := ⟨rfl, rfl, rfl, by decide +kernel, rfl, by decide +kernel, by decide +kernel⟩
theorem sc_is_worth : FnScope ["thing"] ["thing"] (defScope s_is_worth) := ⟨rfl, rfl, rfl, by decide +kernel, rfl, by decide +kernel, by decide +kernel⟩
theorem sc_is_index : FnScope ["thing", "many"] ["thing", "many"] (defScope s_is_index) := ⟨rfl, rfl, rfl, by decide +kernel, rfl, by decide +kernel, by decide +kernel⟩
theorem sc_is_name : FnScope ["thing"] ["thing"] (defScope s_is_name) := ⟨rfl, rfl, rfl, by decide +kernel, rfl, by decide +kernel, by decide +kernel⟩
theorem sc_are_names : FnScope ["thing", "name"] ["thing"] (defScope s_are_names) := ⟨rfl, rfl, rfl, by decide +kernel, rfl, by decide +kernel, by decide +kernel⟩
theorem sc_are_unlike : FnScope ["names"] ["names"] (defScope s_are_unlike) := ⟨rfl, rfl, rfl, by decide +kernel, rfl, by decide +kernel, by decide +kernel⟩
theorem sc_is_headed : FnScope ["thing"] ["thing"] (defScope s_is_headed) := ⟨rfl, rfl, rfl, by decide +kernel, rfl, by decide +kernel, by decide +kernel⟩
theorem sc_are_headed : FnScope ["thing", "most", "one"] ["thing", "most"] (defScope s_are_headed) := ⟨rfl, rfl, rfl, by decide +kernel, rfl, by decide +kernel, by decide +kernel⟩
/-- one datum, a truth -/
def F1 (g : PyData → Bool) (ds : List PyData) : PyData := match ds with
  | [d] => .bool (g d)
  | _ => .none
def F2 (g : PyData → PyData → Bool) (ds : List PyData) : PyData := match ds with
  | [d, e] => .bool (g d e)
  | _ => .none
def intOf (d : PyData) : Int := match d with
  | .int i => i
  | _ => 0
section
variable {P : Program} {w : World} {K : PySem.W.Frag} {mg : Str → Option Value} {base : Heap} {f g g2 g3 : Addr} {fd gd gd2 gd3 : FuncData}
theorem ok_is_whole (D : Def K mg "is_whole" s_is_whole ["thing"] f fd) (B : Blt mg) : FnOk P w K mg base CX0 1 f fd ["thing"] (spP K (fun ds => ds.length = 1) (F1 wholeD)) := by
  refine D.F.ok sc_is_whole (fun vs H Q E h => spP_len (fun _ h => h) h) (fun cdv A outer s H vs Q E hr h => ?_)
  obtain ⟨b, ds, kn, hd, hp, q⟩ := h
  obtain ⟨v, d, rfl, rfl, h1⟩ := one_of hd hp
  refine ⟨_, pss_one (ps_ret (pe_and (pe_callB call_isi rfl B.isi bb_isinstance (pa_cons (pv 0) (pa_cons (pe_tyN rfl B.int bt_int) pa_nil)))
    (pe_one (pe_not (pe_callB call_isi rfl B.isi bb_isinstance (pa_cons (pv 0) (pa_cons (pe_tyN rfl B.bool bt_bool) pa_nil))))))), ?_⟩
  exact SR.fin (sr_ret (ed_andB (ed_isi (.inl rfl) (ed_var rfl h1)) fun _ => ed_not (ed_isi (.inr (.inl rfl)) (ed_var rfl h1)))) q
theorem ok_is_worth (D : Def K mg "is_worth" s_is_worth ["thing"] f fd) (D1 : Def K mg "is_whole" s_is_whole ["thing"] g gd) (B : Blt mg) {t : Tok} (mW : mg "MOST_WORTH" = some (.int 1000000000000 t)) :
    FnOk P w K mg base CX0 2 f fd ["thing"] (spP K (fun ds => ds.length = 1) (F1 worthD)) := by
  refine D.F.ok sc_is_worth (fun vs H Q E h => spP_len (fun _ h => h) h) (fun cdv A outer s H vs Q E hr h => ?_)
  obtain ⟨b, ds, kn, hd, hp, q⟩ := h
  obtain ⟨v, d, rfl, rfl, h1⟩ := one_of hd hp
  refine ⟨_, pss_one (ps_ret (pe_and (pe_cd D1 (ok_is_whole D1 B) hr (pa_cons (pv 0) pa_nil))
    (pe_one (pe_chain op_le op_le (pe_un un_neg (pe_gI mW)) (pv 0) (pe_gI mW))))), ?_⟩
  cases hw : wholeD d with
  | false =>
    refine SR.fin (sr_ret ((ed_and (d := .none) (c := wholeD d) (ed_call kn (ea_cons (ed_var rfl h1) ea_nil) (by rfl)) fun h => ?_).to ?_)) q
    · rw [hw] at h; cases h
    · rw [hw]
      have : worthD d = false := by
        cases d <;> first | rfl | (simp [wholeD, isD, dTy, tyIs] at hw)
      show PyData.bool false = .bool (worthD d)
      rw [this]
  | true =>
    obtain ⟨i, rfl⟩ := wholeD_int hw
    refine SR.fin (sr_ret ((ed_andB (c := wholeD (.int i)) (ed_call kn (ea_cons (ed_var rfl h1) ea_nil) (by rfl)) fun _ => ed_chain (ed_neg (ed_c (.int _))) (ed_var rfl h1) (ed_c (.int _))).to ?_)) q
    rw [hw]
    rfl
theorem ok_is_index (D : Def K mg "is_index" s_is_index ["thing", "many"] f fd) (D1 : Def K mg "is_whole" s_is_whole ["thing"] g gd) (B : Blt mg) :
    FnOk P w K mg base CX0 2 f fd ["thing", "many"] (spP K (fun ds => ds.length = 2 ∧ ∀ d n, ds = [d, n] → ∃ i, n = .int i) (F2 fun d n => indexD d (intOf n))) := by
  refine D.F.ok sc_is_index (fun vs H Q E h => spP_len (fun _ h => h.1) h) (fun cdv A outer s H vs Q E hr h => ?_)
  obtain ⟨b, ds, kn, hd, ⟨hp, hp2⟩, q⟩ := h
  obtain ⟨v, v2, d, n, rfl, rfl, h1, h2⟩ := two_of hd hp
  obtain ⟨m, rfl⟩ := hp2 d n rfl
  refine ⟨_, pss_one (ps_ret (pe_and (pe_cd D1 (ok_is_whole D1 B) hr (pa_cons (pv 0) pa_nil))
    (pe_one (pe_chain op_le op_lt pe_int (pv 0) (pv 1))))), ?_⟩
  cases hw : wholeD d with
  | false =>
    refine SR.fin (sr_ret ((ed_and (d := .none) (c := wholeD d) (ed_call kn (ea_cons (ed_var rfl h1) ea_nil) (by rfl)) fun h => ?_).to ?_)) q
    · rw [hw] at h; cases h
    · rw [hw]
      have : indexD d (intOf (.int m)) = false := by
        cases d <;> first | rfl | (simp [wholeD, isD, dTy, tyIs] at hw)
      show PyData.bool false = .bool (indexD d (intOf (.int m)))
      rw [this]
  | true =>
    obtain ⟨i, rfl⟩ := wholeD_int hw
    refine SR.fin (sr_ret ((ed_andB (c := wholeD (.int i)) (ed_call kn (ea_cons (ed_var rfl h1) ea_nil) (by rfl)) fun _ => ed_chain ed_int (ed_var rfl h1) (ed_var rfl h2)).to ?_)) q
    rw [hw]
    rfl
theorem ok_is_name (D : Def K mg "is_name" s_is_name ["thing"] f fd) (B : Blt mg) {t : Tok} (mL : mg "MOST_LETTERS" = some (.int 8 t)) :
    FnOk P w K mg base CX0 1 f fd ["thing"] (spP K (fun ds => ds.length = 1 ∧ ∀ d, ds = [d] → okD 30 d = true) (F1 nameD)) := by
  refine D.F.ok sc_is_name (fun vs H Q E h => spP_len (fun _ h => h.1) h) (fun cdv A outer s H vs Q E hr h => ?_)
  obtain ⟨b, ds, kn, hd, ⟨hp, hok⟩, q⟩ := h
  obtain ⟨v, d, rfl, rfl, h1⟩ := one_of hd hp
  have hok := hok d rfl
  refine ⟨_, pss_cons (ps_if (PW.pt (pw_or (pt_not (pt_val (pe_callB call_isi rfl B.isi bb_isinstance (pa_cons (pv 0) (pa_cons (pe_tyN rfl B.str bt_str) pa_nil)))))
      (pw_or1 (pt_cmpR op_gt (pe_callB call_lenD1 rfl B.len bb_len (pa_cons (pv 0) pa_nil)) (pe_gI mL) (nomark _))))) (pss_one (ps_ret pe_bl)) pss_nil)
    (pss_one (ps_ret (pe_and (pe_bm0 PySem.F.plainAttrs_str PySem.F.slot_str_isascii PySem.F.type_str_isascii mt_isascii (pv 0))
      (pe_and (pe_bm0 PySem.F.plainAttrs_str PySem.F.slot_str_isalpha PySem.F.type_str_isalpha mt_isalpha (pv 0))
      (pe_one (pe_bm0 PySem.F.plainAttrs_str PySem.F.slot_str_islower PySem.F.type_str_islower mt_islower (pv 0))))))), ?_⟩
  have t1 := et_n (et_b (ed_isi (K := K) (b := b) (σ := start ["thing"] [v]) (H := H) (T := "str") (.inr (.inr (.inl rfl))) (ed_var (i := 0) rfl h1)))
  cases hs : isD "str" d with
  | false =>
    rw [hs] at t1
    refine SR.fin ((sr_if (e := .none) (et_or (b := false) t1 fun h => nomatch h) (fun _ => sr_ret ed_bl) fun h => nomatch h).to ?_) q
    have : nameD d = false := by
      cases d <;> first | rfl | (simp [isD, dTy, tyIs] at hs)
    show PyData.bool false = .bool (nameD d)
    rw [this]
  | true =>
    obtain ⟨x, rfl⟩ := isD_str hs
    have hl := ok_str hok
    rw [hs] at t1
    refine SR.fin ((sr_if (et_or t1 fun _ => et_t (ed_gt (ed_len (ed_var rfl h1) (.inl hs) fun y e => by cases e; exact Nat.le_trans hl (by decide)) (ed_c (.int _)))) (fun _ => sr_ret ed_bl)
      fun _ => sr_ret (ed_andB (ed_m0 (ed_var rfl h1) trivial fun _ => .bl _) fun _ => ed_andB (ed_m0 (ed_var rfl h1) trivial fun _ => .bl _) fun _ => ed_m0 (ed_var rfl h1) trivial fun _ => .bl _)).to ?_) q
    show _ = PyData.bool (nameS x)
    unfold nameS
    by_cases h8 : x.length ≤ 8
    · have e1 : decide ((8 : Int) < (lenD (.str x) : Nat)) = false := decide_eq_false (by show ¬ (8 : Int) < (x.length : Nat); omega)
      rw [e1, decide_eq_true h8]
      rfl
    · have e1 : decide ((8 : Int) < (lenD (.str x) : Nat)) = true := decide_eq_true (by show (8 : Int) < (x.length : Nat); omega)
      rw [e1, decide_eq_false h8]
      rfl
end
end Wr

set_option Elab.async false
set_option linter.all false
set_option maxRecDepth 100000
set_option maxHeartbeats 4000000
namespace Wr
open PySem PySem.Spec PyProof.Rows L2 Evl
theorem hu64 {A : Around} {k : Nat} (hr : Room k A) : A.units + 64 < cLine := hr.units
theorem hu65 {A : Around} {k : Nat} (hr : Room k A) : A.units + 65 < cLine := by have := hr.un; omega
section
variable {K : PySem.W.Frag} {b : List Addr} {σ : L2.St} {H H' : Hp} {ta te : TE} {tt : TT} {d : PyData} {ds : List PyData}
theorem all_map {α : Type} (xs : List α) (g : α → Bool) : (xs.map g).all id = xs.all g := by
  rw [List.all_map]
  rfl
theorem ed_allT {k : Nat} {g : PyData → Bool} (kn : Kn b H) (ha : ED K b ta σ H (.tuple ds)) (hl : ds.length ≤ 1000)
    (he : ∀ d v H3, d ∈ ds → Ex H H3 → Dq K b H3 v d → ED K b te ((wipe σ [k]).set k (some v)) H3 (.bool (g d))) :
    ED K b (tCB (rAll K) (tCons (tLc (iTup K ta) (gName k) tYes te [k]) tNil)) σ H (.bool (ds.all g)) := by
  have h := ed_lcT1 (K := K) (b := b) (k := k) (f := fun d => .bool (g d)) kn ha (Nat.lt_of_le_of_lt hl (by decide)) he fun _ _ => rfl
  have e : ds.map (fun d => PyData.bool (g d)) = (ds.map g).map PyData.bool := by rw [List.map_map]; rfl
  exact (ed_all (h.to (by rw [e]))).to (by rw [all_map])
theorem eqv_int (i j : Int) : PyData.eqv (.int i) (.int j) = (i == j) := by simp only [PyData.eqv]
theorem sh_int (i : Int) : SeqAt.shaped (.int i) = true := by
  show ((PyData.int i).canLay0 && decide ((PyData.int i).depth ≤ 64)) = true
  simp only [PyData.canLay0, PyData.depth]
  rfl
theorem sh_bool (i : Bool) : SeqAt.shaped (.bool i) = true := by
  show ((PyData.bool i).canLay0 && decide ((PyData.bool i).depth ≤ 64)) = true
  simp only [PyData.canLay0, PyData.depth]
  rfl
theorem sh_none : SeqAt.shaped .none = true := by
  show (PyData.none.canLay0 && decide (PyData.none.depth ≤ 64)) = true
  simp only [PyData.canLay0, PyData.depth]
  rfl
theorem strsOf_map (xs : List Str) : strsOf (xs.map PyData.str) = xs := by
  induction xs with
  | nil => rfl
  | cons x r ih =>
    show (x :: strsOf (r.map PyData.str)) = x :: r
    rw [ih]
theorem map_strsOf : ∀ {ds : List PyData}, ds.all (isD "str") = true → (strsOf ds).map PyData.str = ds
  | [], _ => rfl
  | d :: ds, h => by
    rw [List.all_cons, Bool.and_eq_true] at h
    obtain ⟨x, rfl⟩ := isD_str h.1
    show PyData.str x :: (strsOf ds).map PyData.str = .str x :: ds
    rw [map_strsOf h.2]
theorem nameD_str {d : PyData} (h : nameD d = true) : isD "str" d = true := by
  cases d <;> first | rfl | cases h
theorem names_strs {ds : List PyData} (h : ds.all nameD = true) : ds.all (isD "str") = true :=
  List.all_eq_true.mpr fun d hd => nameD_str (List.all_eq_true.mp h d hd)
theorem strsOf_len {ds : List PyData} : (strsOf ds).length ≤ ds.length := List.length_filterMap_le _ _
end
def unlikeD (d : PyData) : Bool := match d with
  | .tuple ds => unlikeS (strsOf ds)
  | .list ds => unlikeS (strsOf ds)
  | _ => false
def StrSeq (d : PyData) : Prop := ∃ xs : List Str, xs.length ≤ 1000 ∧ (d = .list (xs.map PyData.str) ∨ d = .tuple (xs.map PyData.str))
section
variable {P : Program} {w : World} {K : PySem.W.Frag} {mg : Str → Option Value} {base : Heap} {f g g2 g3 : Addr} {fd gd gd2 gd3 : FuncData}
theorem ok_are_unlike (D : Def K mg "are_unlike" s_are_unlike ["names"] f fd) (B : Blt mg) :
    FnOk P w K mg base CX0 1 f fd ["names"] (spP K (fun ds => ds.length = 1 ∧ ∀ d, ds = [d] → StrSeq d) (F1 unlikeD)) := by
  refine D.F.ok sc_are_unlike (fun vs H Q E h => spP_len (fun _ h => h.1) h) (fun cdv A outer s H vs Q E hr h => ?_)
  obtain ⟨b, ds, kn, hd, ⟨hp, hp2⟩, q⟩ := h
  obtain ⟨v, d, rfl, rfl, h1⟩ := one_of hd hp
  obtain ⟨xs, hl, hx⟩ := hp2 d rfl
  refine ⟨_, pss_one (ps_ret (pe_cmpR (op_eqD (hu64 hr)) (pe_callB call_lenK rfl B.len bb_len (pa_cons (pe_callTy (cr_setS rfl) rfl B.set bt_set (pa_cons (pv 0) pa_nil)) pa_nil))
    (pe_callB call_lenD1 rfl B.len bb_len (pa_cons (pv 0) pa_nil)) (nomark _))), ?_⟩
  have hk : isD "str" d = true ∨ isD "list" d = true ∨ isD "tuple" d = true := by
    rcases hx with rfl | rfl
    · exact .inr (.inl rfl)
    · exact .inr (.inr rfl)
  have hn : ∀ x, d = .str x → x.length ≤ sizeLine := by
    rcases hx with rfl | rfl <;> intro x e <;> cases e
  refine SR.fin (sr_ret ((ed_eq (ed_lenSet (ed_var rfl h1) hx hl) (ed_len (ed_var rfl h1) hk hn) (sh_int _) (sh_int _)).to ?_)) q
  have e1 : lenD d = xs.length := by
    rcases hx with rfl | rfl <;> exact List.length_map _
  have e2 : unlikeD d = unlikeS xs := by
    rcases hx with rfl | rfl <;> (show unlikeS (strsOf (xs.map PyData.str)) = _; rw [strsOf_map])
  show _ = PyData.bool (unlikeD d)
  rw [e1, e2, eqv_int]
  unfold unlikeS
  by_cases h : (uq xs).length = xs.length
  · rw [h, decide_eq_true rfl, beq_self_eq_true]
  · have h' : ((uq xs).length : Int) ≠ (xs.length : Int) := by omega
    rw [decide_eq_false h, beq_eq_false_iff_ne.mpr h']
theorem ok_are_names (D : Def K mg "are_names" s_are_names ["thing"] f fd) (D1 : Def K mg "is_name" s_is_name ["thing"] g gd) (D2 : Def K mg "are_unlike" s_are_unlike ["names"] g2 gd2) (B : Blt mg) {t t2 : Tok} (mL : mg "MOST_LETTERS" = some (.int 8 t)) (mN : mg "MOST_NAMES" = some (.int 3 t2)) :
    FnOk P w K mg base CX0 2 f fd ["thing"] (spP K (fun ds => ds.length = 1 ∧ ∀ d, ds = [d] → okD 30 d = true) (F1 namesD)) := by
  refine D.F.ok sc_are_names (fun vs H Q E h => spP_len (fun _ h => h.1) h) (fun cdv A outer s H vs Q E hr h => ?_)
  obtain ⟨b, ds, kn, hd, ⟨hp, hok⟩, q⟩ := h
  obtain ⟨v, d, rfl, rfl, h1⟩ := one_of hd hp
  have hok := hok d rfl
  refine ⟨_, pss_cons (ps_if (PW.pt (pw_or (pt_not (pt_val (pe_callB call_isi rfl B.isi bb_isinstance (pa_cons (pv 0) (pa_cons (pe_tyN rfl B.tuple bt_tuple) pa_nil)))))
      (pw_or1 (pt_cmpR op_gt (pe_callB call_lenD1 rfl B.len bb_len (pa_cons (pv 0) pa_nil)) (pe_gI mN) (nomark _))))) (pss_one (ps_ret pe_bl)) pss_nil)
    (pss_one (ps_ret (pe_and (pe_callB (cr_all rfl) rfl B.all bb_all (pa_cons
      (pe_lc (own := [("name", 1)]) (g := gName 1) (tt := tYes) rfl sc_are_names.nd (pi_tup (pv 0)) (blkOk_by (N := ["thing", "name"]) (sc := defScope s_are_names) (by decide +kernel)) (fun _ _ _ _ _ => pg_name (i := 1) sc_are_names.nd rfl (Or.inl rfl)) (fun _ _ _ _ _ => pts_nil)
        (fun _ _ _ _ _ => pe_cd D1 (ok_is_name D1 B mL) hr (pa_cons (pv 1) pa_nil))) pa_nil))
      (pe_one (pe_cd D2 (ok_are_unlike D2 B) hr (pa_cons (pv 0) pa_nil)))))), ?_⟩
  have t1 := et_n (et_b (ed_isi (K := K) (b := b) (σ := start ["thing", "name"] [v]) (H := H) (T := "tuple") (.inr (.inr (.inr (.inl rfl)))) (ed_var (i := 0) rfl h1)))
  cases hs : isD "tuple" d with
  | false =>
    rw [hs] at t1
    refine SR.fin ((sr_if (e := .none) (et_or (b := false) t1 fun h => nomatch h) (fun _ => sr_ret ed_bl) fun h => nomatch h).to ?_) q
    have : namesD d = false := by
      cases d <;> first | rfl | (simp [isD, dTy, tyIs] at hs)
    show PyData.bool false = .bool (namesD d)
    rw [this]
  | true =>
    obtain ⟨ds, rfl⟩ := isD_tuple hs
    rw [hs] at t1
    have hlen := ok_len hok
    have tl := et_or t1 fun _ => et_t (ed_gt (K := K) (b := b) (ed_len (ed_var (i := 0) rfl h1) (.inr (.inr hs)) fun y e => by cases e) (ed_c (v := .int 3) (.int 3)))
    refine SR.fin ((sr_if tl (fun _ => sr_ret ed_bl) fun hc => sr_ret (ed_andB (k := unlikeS (strsOf ds)) (ed_allT (g := nameD) kn (ed_var rfl h1) hlen fun e v' H3 he x3 hv => ed_call (kn.up x3) (ea_cons (ed_var rfl hv) ea_nil) (by exact ⟨rfl, fun e' h' => by cases h'; exact ok_up (ok_items (n := 29) hok e he) (by omega)⟩)) fun ha => ?_)).to ?_) q
    · have e1 := map_strsOf (names_strs ha)
      refine (ed_call (K := K) (f := F1 unlikeD) kn (ea_cons (ed_var (i := 0) rfl h1) ea_nil) ?_).to rfl
      refine ⟨rfl, fun e' h' => ?_⟩
      cases h'
      exact ⟨strsOf ds, Nat.le_trans strsOf_len hlen, .inr (by rw [e1])⟩
    · show _ = PyData.bool (decide (ds.length ≤ 3) && (ds.all nameD && unlikeS (strsOf ds)))
      by_cases h3 : ds.length ≤ 3
      · have e1 : decide ((3 : Int) < (lenD (.tuple ds) : Nat)) = false := decide_eq_false (by show ¬ (3 : Int) < (ds.length : Nat); omega)
        rw [e1, decide_eq_true h3]
        rfl
      · have e1 : decide ((3 : Int) < (lenD (.tuple ds) : Nat)) = true := decide_eq_true (by show (3 : Int) < (ds.length : Nat); omega)
        rw [e1, decide_eq_false h3]
        rfl
end
end Wr

set_option Elab.async false
set_option linter.all false
set_option maxRecDepth 100000
set_option maxHeartbeats 4000000
namespace Wr
open PySem PySem.Spec PyProof.Rows L2 Evl
abbrev s_is_program : Stmt := topS 40
abbrev s_are_rows : Stmt := topS 41
abbrev s_is_row : Stmt := topS 42
theorem sc_is_program : FnScope ["thing", "called", "part"] ["thing"] (defScope s_is_program) := ⟨rfl, rfl, rfl, by decide +kernel, rfl, by decide +kernel, by decide +kernel⟩
theorem sc_are_rows : FnScope ["thing", "called", "at", "row"] ["thing", "called"] (defScope s_are_rows) := ⟨rfl, rfl, rfl, by decide +kernel, rfl, by decide +kernel, by decide +kernel⟩
theorem sc_is_row : FnScope ["thing", "at", "many", "called", "word", "told"] ["thing", "at", "many", "called"] (defScope s_is_row) := ⟨rfl, rfl, rfl, by decide +kernel, rfl, by decide +kernel, by decide +kernel⟩
section
variable {K : PySem.W.Frag} {b : List Addr} {σ : L2.St} {H H' : Hp} {ta te : TE} {tt : TT} {ts : TS} {d a c : PyData} {ds : List PyData}
theorem sr_unpack2 {i j : Nat} (h : ED K b te σ H (.tuple [a, c])) (k : ∀ v1 v2 H', Ex H H' → Dq K b H' v1 a → Dq K b H' v2 c → SR K b ts ((σ.set i (some v1)).set j (some v2)) H' d) :
    SR K b (tSeq (tAsg te (gTup K 2 (gCons (gName i) (gCons (gName j) gNil)))) ts) σ H d := fun H1 x1 D q =>
  h H1 x1 _ fun v H2 x2 hv => by
    cases hv with
    | tup h1 _ h2 =>
      cases h2 with
      | cons p1 p2 =>
        cases p2 with
        | cons p3 p4 =>
          cases p4
          exact ⟨_, _, rfl, ex_t hid_le h1, rfl, _, _, rfl, _, _, rfl, rfl, k _ _ H2 (x1.trans x2) p1 p3 H2 (Ex.refl H2) D fun z H4 x4 hz => q _ H4 (x2.trans x4) hz⟩
/-- [.. for i, x in enumerate(tuple)], flat items -/
theorem ed_lcE {k1 k2 : Nat} {f : Nat → PyData → PyData} (kn : Kn b H) (ha : ED K b ta σ H (.tuple ds)) (hl : ds.length < sizeLine)
    (hw : ∀ x y, wipe (((wipe σ [k1, k2]).set k1 x).set k2 y) [k1, k2] = wipe σ [k1, k2])
    (he : ∀ i d v H3, ds[i]? = some d → Ex H H3 → Dq K b H3 v d → ED K b te (((wipe σ [k1, k2]).set k1 (some (.int (i : Nat)))).set k2 (some v)) H3 (f i d)) (hf : ∀ i d, ds[i]? = some d → flatP (f i d) = true) :
    ED K b (tLc (iEnumT K (tCons ta tNil)) (gTup K 2 (gCons (gName k1) (gCons (gName k2) gNil))) tYes te [k1, k2]) σ H (.list ((List.range ds.length).map fun i => f i (ds.getD i .none))) := fun H1 x1 Q q =>
  ha H1 x1 _ fun x H2 x2 hx => by
    cases hx with
    | @tup a xs _ h1 _ h2 =>
      have hlen := dps_len h2
      refine ⟨a, xs, rfl, ex_t hid_le h1, fun D hD => ?_⟩
      refine lc_it walk_enumT (fun i H3 => Ex H2 H3 ∧ H3 D = some (.lst (((List.range i).map fun i => f i (ds.getD i .none)).map vOf))) ⟨Ex.new hD, upd_same⟩ (fun i H3 _ h => ex_t h.1 (ex_t hid_le h1)) ?_ ?_
      · intro i x H3 H3' hi ⟨x3, e3⟩ ⟨T, y1, y2, ex, nT, eH, g1, g2⟩
        subst ex eH
        have e1 : y1 = .int (i : Nat) := (Option.some.inj g1).symm
        subst e1
        obtain ⟨d, gd, dd⟩ := dps_at h2 g2
        have xT : Ex H3 (upd H3 T (.tup [.int (i : Nat), y2])) := Ex.new nT
        refine ⟨T, [.int (i : Nat), y2], rfl, .inl (.inl upd_same), rfl, _, _, rfl, _, _, rfl, rfl, hw _ _, ?_⟩
        refine et_yes (H := upd H3 T (.tup [.int (i : Nat), y2])) _ (Ex.refl _) _ fun H4 x4 => ?_
        rw [if_pos rfl]
        have x3' : Ex H2 H4 := (x3.trans xT).trans x4
        refine he i d y2 _ gd ((x1.trans x2).trans x3') (Dq.up dd x3') _ (Ex.refl _) _ fun y H5 x5 hy => ?_
        have ey := dp_flat hy (hf i d gd)
        have hg : ds.getD i .none = d := by rw [List.getD_eq_getElem?_getD, gd, Option.getD_some]
        refine ⟨_, x5 _ _ (x4 _ _ (xT _ _ e3)), ?_, Ex.mut (x3'.trans x5) hD, ?_⟩
        · rw [List.length_map, List.length_map, List.length_range]
          have : xs.length < sizeLine := by rw [hlen]; exact hl
          omega
        · rw [upd_same, List.range_succ, List.map_append, List.map_append, ey]
          show some (HO.lst (_ ++ [vOf (f i d)])) = some (HO.lst (_ ++ [vOf (f i (ds.getD i .none))]))
          rw [hg]
      · intro H3 ⟨x3, e3⟩
        rw [hlen] at e3
        refine q _ H3 (x2.trans x3) (.lst (.inl (.inl ?_)) (flats_dp fun d hd => ?_))
        · rw [hid_ne ((kn.up (x1.trans x2)).new hD)]
          exact e3
        · obtain ⟨i, hi, rfl⟩ := List.mem_map.mp hd
          have hi' := List.mem_range.mp hi
          have g1 : ds[i]? = some ds[i] := List.getElem?_eq_getElem hi'
          have := hf i _ g1
          simp only [List.getD_eq_getElem?_getD, g1, Option.getD_some]
          exact this
theorem atI0 {α : Type} (x : α) (r : List α) : atI (x :: r) 0 = some x := atI_nat (j := 0) rfl
theorem atI1 {α : Type} (x y : α) (r : List α) : atI (x :: y :: r) 1 = some y := atI_nat (j := 1) rfl
theorem atI2 {α : Type} (x y z : α) (r : List α) : atI (x :: y :: z :: r) 2 = some z := atI_nat (j := 2) rfl
theorem sh_str {x : Str} (h : PyData.strOk x = true) : SeqAt.shaped (.str x) = true := by
  show ((PyData.str x).canLay0 && decide ((PyData.str x).depth ≤ 64)) = true
  simp only [PyData.canLay0, PyData.depth, h]
  rfl
theorem sh_strs {xs : List Str} (h : xs.all PyData.strOk = true) : SeqAt.shaped (.tuple (xs.map .str)) = true ∧ SeqAt.shaped (.list (xs.map .str)) = true := by
  have h1 : PyData.canLayAll0 (xs.map .str) = true := lay_all fun d hd => by
    obtain ⟨x, hx, rfl⟩ := List.mem_map.mp hd
    simp only [PyData.canLay0]
    exact List.all_eq_true.mp h x hx
  have h2 : PyData.depthAll (xs.map .str) ≤ 0 := depth_all fun d hd => by
    obtain ⟨x, hx, rfl⟩ := List.mem_map.mp hd
    simp only [PyData.depth]
    exact Nat.le_refl 0
  constructor
  · show ((PyData.tuple _).canLay0 && decide ((PyData.tuple _).depth ≤ 64)) = true
    simp only [PyData.canLay0, PyData.depth, h1, Bool.true_and]
    exact decide_eq_true (by omega)
  · show ((PyData.list _).canLay0 && decide ((PyData.list _).depth ≤ 64)) = true
    simp only [PyData.canLay0, PyData.depth, h1, Bool.true_and]
    exact decide_eq_true (by omega)
end
section
variable {P : Program} {w : World} {K : PySem.W.Frag} {mg : Str → Option Value} {base : Heap} {f g g2 g3 g4 g5 : Addr} {fd gd gd2 gd3 gd4 gd5 : FuncData}
theorem ok_is_headed (D : Def K mg "is_headed" s_is_headed ["thing"] f fd) (D1 : Def K mg "is_name" s_is_name ["thing"] g gd) (G1 : FnOk P w K mg base CX0 1 g gd ["thing"] (spP K (fun ds => ds.length = 1 ∧ ∀ d, ds = [d] → okD 30 d = true) (F1 nameD)))
    (D2 : Def K mg "are_names" s_are_names ["thing"] g2 gd2) (G2 : FnOk P w K mg base CX0 2 g2 gd2 ["thing"] (spP K (fun ds => ds.length = 1 ∧ ∀ d, ds = [d] → okD 30 d = true) (F1 namesD))) (B : Blt mg) :
    FnOk P w K mg base CX0 3 f fd ["thing"] (spP K (fun ds => ds.length = 1 ∧ ∀ d, ds = [d] → okD 30 d = true) (F1 headedD)) := by
  refine D.F.ok sc_is_headed (fun vs H Q E h => spP_len (fun _ h => h.1) h) (fun cdv A outer s H vs Q E hr h => ?_)
  obtain ⟨b, ds, kn, hd, ⟨hp, hok⟩, q⟩ := h
  obtain ⟨v, d, rfl, rfl, h1⟩ := one_of hd hp
  have hok := hok d rfl
  refine ⟨_, pss_one (ps_ret (pe_and (pe_callB call_isi rfl B.isi bb_isinstance (pa_cons (pv 0) (pa_cons (pe_tyN rfl B.tuple bt_tuple) pa_nil)))
    (pe_and (pe_cmpR (op_eqD (hu64 hr)) (pe_callB call_lenD1 rfl B.len bb_len (pa_cons (pv 0) pa_nil)) pe_int (nomark _))
    (pe_and (pe_cd D1 G1 (hr.mono (by decide)) (pa_cons (pe_ix ix_tup (pv 0) pe_int (fun _ _ => rfl)) pa_nil))
    (pe_one (pe_cd D2 G2 hr (pa_cons (pe_ix ix_tup (pv 0) pe_int (fun _ _ => rfl)) pa_nil))))))), ?_⟩
  have t1 := ed_isi (K := K) (b := b) (σ := start ["thing"] [v]) (H := H) (T := "tuple") (.inr (.inr (.inr (.inl rfl)))) (ed_var (i := 0) rfl h1)
  cases hs : isD "tuple" d with
  | false =>
    rw [hs] at t1
    refine SR.fin (sr_ret ((ed_andB (k := false) t1 fun h => nomatch h).to ?_)) q
    have : headedD d = false := by
      cases d <;> first | rfl | (simp [isD, dTy, tyIs] at hs)
    show PyData.bool false = .bool (headedD d)
    rw [this]
  | true =>
    obtain ⟨ds, rfl⟩ := isD_tuple hs
    rw [hs] at t1
    have t2 := ed_eq (K := K) (b := b) (σ := start ["thing"] [v]) (ed_len (ed_var (i := 0) rfl h1) (.inr (.inr hs)) fun y e => by cases e) (ed_int (i := 3)) (sh_int _) (sh_int _)
    by_cases h3 : ds.length = 3
    · obtain ⟨x, y, z, rfl⟩ : ∃ x y z, ds = [x, y, z] := by
        match ds, h3 with
        | [x, y, z], _ => exact ⟨x, y, z, rfl⟩
      have okx : ∀ e ∈ [x, y, z], okD 30 e = true := fun e he => ok_up (ok_items (n := 29) hok e he) (by omega)
      refine SR.fin (sr_ret ((ed_andB t1 fun _ => ed_andB t2 fun _ => ed_andB (ed_call kn (ea_cons (ed_ixT (ed_var rfl h1) ed_int (atI0 x [y, z])) ea_nil) ⟨rfl, fun e' h' => by cases h'; exact okx x (by simp)⟩)
        fun _ => ed_call kn (ea_cons (ed_ixT (ed_var rfl h1) ed_int (atI1 x y [z])) ea_nil) ⟨rfl, fun e' h' => by cases h'; exact okx y (by simp)⟩).to ?_)) q
      rw [eqv_int]
      rfl
    · have e3 : PyData.eqv (.int (lenD (.tuple ds) : Nat)) (.int 3) = false := by
        rw [eqv_int]
        exact beq_eq_false_iff_ne.mpr (by show ¬ ((ds.length : Nat) : Int) = 3; omega)
      rw [e3] at t2
      refine SR.fin (sr_ret ((ed_andB (k := false) t1 fun _ => ed_andB (k := false) t2 fun h => nomatch h).to ?_)) q
      have : headedD (.tuple ds) = false := by
        match ds, h3 with
        | [], _ => rfl
        | [_], _ => rfl
        | [_, _], _ => rfl
        | [_, _, _], h => exact absurd rfl h
        | _ :: _ :: _ :: _ :: _, _ => rfl
      show PyData.bool false = .bool (headedD _)
      rw [this]
theorem headed_fst {d : PyData} (h : headedD d = true) : ∃ a c e, d = .tuple [a, c, e] ∧ nameD a = true ∧ namesD c = true := by
  unfold headedD at h
  split at h
  · rename_i a c e
    rw [Bool.and_eq_true] at h
    exact ⟨a, c, e, rfl, h.1, h.2⟩
  · cases h
theorem ok_are_headed (D : Def K mg "are_headed" s_are_headed ["thing", "most"] f fd) (D1 : Def K mg "is_headed" s_is_headed ["thing"] g gd) (G1 : FnOk P w K mg base CX0 3 g gd ["thing"] (spP K (fun ds => ds.length = 1 ∧ ∀ d, ds = [d] → okD 30 d = true) (F1 headedD)))
    (D2 : Def K mg "are_unlike" s_are_unlike ["names"] g2 gd2) (B : Blt mg) :
    FnOk P w K mg base CX0 4 f fd ["thing", "most"] (spP K (fun ds => ds.length = 2 ∧ ∀ d n, ds = [d, n] → okD 30 d = true ∧ ∃ i, n = .int i) (F2 fun d n => headedAll d (intOf n))) := by
  refine D.F.ok sc_are_headed (fun vs H Q E h => spP_len (fun _ h => h.1) h) (fun cdv A outer s H vs Q E hr h => ?_)
  obtain ⟨b, ds, kn, hd, ⟨hp, hp2⟩, q⟩ := h
  obtain ⟨v, v2, d, n, rfl, rfl, h1, h2⟩ := two_of hd hp
  obtain ⟨hok, m, rfl⟩ := hp2 d n rfl
  refine ⟨_, pss_cons (ps_if (PW.pt (pw_or (pt_not (pt_val (pe_callB call_isi rfl B.isi bb_isinstance (pa_cons (pv 0) (pa_cons (pe_tyN rfl B.tuple bt_tuple) pa_nil)))))
      (pw_or1 (pt_not (pt_chain op_le op_le pe_int (pe_callB call_lenD1 rfl B.len bb_len (pa_cons (pv 0) pa_nil)) (pv 1)))))) (pss_one (ps_ret pe_bl)) pss_nil)
    (pss_one (ps_ret (pe_and (pe_callB (cr_all rfl) rfl B.all bb_all (pa_cons
      (pe_lc (own := [("one", 2)]) (g := gName 2) (tt := tYes) rfl sc_are_headed.nd (pi_tup (pv 0)) (blkOk_by (N := ["thing", "most", "one"]) (sc := defScope s_are_headed) (by decide +kernel)) (fun _ _ _ _ _ => pg_name (i := 2) sc_are_headed.nd rfl (Or.inl rfl)) (fun _ _ _ _ _ => pts_nil)
        (fun _ _ _ _ _ => pe_cd D1 G1 hr (pa_cons (pv 2) pa_nil))) pa_nil))
      (pe_one (pe_cd D2 (ok_are_unlike D2 B) (hr.mono (by decide)) (pa_cons
        (pe_lc (own := [("one", 2)]) (g := gName 2) (tt := tYes) rfl sc_are_headed.nd (pi_tup (pv 0)) (blkOk_by (N := ["thing", "most", "one"]) (sc := defScope s_are_headed) (by decide +kernel)) (fun _ _ _ _ _ => pg_name (i := 2) sc_are_headed.nd rfl (Or.inl rfl)) (fun _ _ _ _ _ => pts_nil)
          (fun _ _ _ _ _ => pe_ix (r := rIxT K) ix_tup (pv 2) pe_int (fun _ _ => rfl))) pa_nil)))))), ?_⟩
  have t1 := et_n (et_b (ed_isi (K := K) (b := b) (σ := start ["thing", "most", "one"] [v, v2]) (H := H) (T := "tuple") (.inr (.inr (.inr (.inl rfl)))) (ed_var (i := 0) rfl h1)))
  cases hs : isD "tuple" d with
  | false =>
    rw [hs] at t1
    refine SR.fin ((sr_if (e := .none) (et_or (b := false) t1 fun h => nomatch h) (fun _ => sr_ret ed_bl) fun h => nomatch h).to ?_) q
    have : headedAll d (intOf (.int m)) = false := by
      cases d <;> first | rfl | (simp [isD, dTy, tyIs] at hs)
    show PyData.bool false = .bool (headedAll d (intOf (.int m)))
    rw [this]
  | true =>
    obtain ⟨ds, rfl⟩ := isD_tuple hs
    rw [hs] at t1
    have hlen := ok_len hok
    have okx : ∀ e ∈ ds, okD 30 e = true := fun e he => ok_up (ok_items (n := 29) hok e he) (by omega)
    have tl := et_or t1 fun _ => et_n (et_t (ed_chain (K := K) (b := b) (g := fun i j => decide (i ≤ j)) (g' := fun i j => decide (i ≤ j)) (ed_int (i := 1)) (ed_len (ed_var (i := 0) rfl h1) (.inr (.inr hs)) fun y e => by cases e) (ed_var (i := 1) rfl h2)))
    refine SR.fin ((sr_if tl (fun _ => sr_ret ed_bl) fun hc => sr_ret (ed_andB (k := unlikeS (strsOf (ds.map fst))) (ed_allT (g := headedD) kn (ed_var rfl h1) hlen fun e v' H3 he x3 hv => ed_call (kn.up x3) (ea_cons (ed_var rfl hv) ea_nil) (by exact ⟨rfl, fun e' h' => by cases h'; exact okx e he⟩)) fun ha => ?_)).to ?_) q
    · have hh : ∀ e ∈ ds, ∃ a c z, e = .tuple [a, c, z] ∧ nameD a = true ∧ namesD c = true := fun e he => headed_fst (List.all_eq_true.mp ha e he)
      have hst : (ds.map fst).all (isD "str") = true := List.all_eq_true.mpr fun x hx => by
        obtain ⟨e, he, rfl⟩ := List.mem_map.mp hx
        obtain ⟨a, c, z, rfl, h4, _⟩ := hh e he
        exact nameD_str h4
      have e1 := map_strsOf hst
      have lc := ed_lcT1 (K := K) (b := b) (te := tOp (rIxT K) (tVar 2) (tC (.int 0))) (k := 2) (f := fst) kn (ed_var (σ := start ["thing", "most", "one"] [v, v2]) (i := 0) rfl h1) (Nat.lt_of_le_of_lt hlen (by decide)) (fun e v' H3 he x3 hv => by
        obtain ⟨a, c, z, rfl, _, _⟩ := hh e he
        exact ed_ixT (ed_var rfl hv) ed_int (atI0 a [c, z])) (fun e he => by
        obtain ⟨a, c, z, rfl, h4, _⟩ := hh e he
        obtain ⟨x, rfl⟩ := isD_str (nameD_str h4)
        rfl)
      refine (ed_call (K := K) (f := F1 unlikeD) kn (ea_cons lc ea_nil) ?_).to ?_
      · refine ⟨rfl, fun e' h' => ?_⟩
        cases h'
        refine ⟨strsOf (ds.map fst), Nat.le_trans strsOf_len (by rw [List.length_map]; exact hlen), .inl (by rw [e1])⟩
      · rfl
    · show _ = PyData.bool ((decide (1 ≤ ds.length) && decide ((ds.length : Int) ≤ m)) && (ds.all headedD && unlikeS (strsOf (ds.map fst))))
      have e1 : decide ((1 : Int) ≤ (lenD (.tuple ds) : Nat)) = decide (1 ≤ ds.length) := by
        show decide ((1 : Int) ≤ (ds.length : Nat)) = _
        by_cases h : 1 ≤ ds.length
        · rw [decide_eq_true h, decide_eq_true (by omega)]
        · rw [decide_eq_false h, decide_eq_false (by omega)]
      rw [e1]
      show (if (!(decide (1 ≤ ds.length) && decide ((ds.length : Int) ≤ m))) = true then _ else _) = _
      cases (decide (1 ≤ ds.length) && decide ((ds.length : Int) ≤ m)) <;> rfl
end
end Wr

set_option Elab.async false
set_option linter.all false
set_option maxRecDepth 100000
set_option maxHeartbeats 4000000
namespace Wr
open PySem PySem.Spec PyProof.Rows L2 Evl
/-- the text's written tuples -/
structure Words (K : PySem.W.Frag) (mg : Str → Option Value) (aN aR aL : Addr) : Prop where
  mN : mg "NAME_WORDS" = some (.ref aN)
  mR : mg "ROW_WORDS" = some (.ref aR)
  mL : mg "LONE_WORDS" = some (.ref aL)
  kN : ∀ H, SqT K H aN (nameW.map V.str) ∧ TN K H aN
  kR : ∀ H, SqT K H aR (rowW.map V.str) ∧ TN K H aR
  kL : ∀ H, SqT K H aL (loneW.map V.str) ∧ TN K H aL
def rowF (ds : List PyData) : PyData := match ds with
  | [d, i, m, .list cs] => .bool (rowD d (intOf i) (intOf m) (strsOf cs))
  | _ => .none
def RowPre (ds : List PyData) : Prop := ds.length = 4 ∧ ∀ d i m c, ds = [d, i, m, c] → okD 30 d = true ∧ (∃ k, i = .int k) ∧ (∃ k, m = .int k) ∧ ∃ xs : List Str, xs.all PyData.strOk = true ∧ c = .list (xs.map .str)
theorem rowD_two (a c : PyData) (i m : Int) (xs : List Str) : rowD (.tuple [a, c]) i m xs = (if PyData.eqv a (.str "put") = true then worthD c
    else if inD a (nameW.map .str) = true then nameD c
    else if PyData.eqv a (.str "call") = true then inD c (xs.map .str)
    else inD a (rowW.map .str) && (indexD c m && !(PyData.eqv a (.str "try") && PyData.eqv c (.int (i + 1))))) := rfl
theorem strOk_words : (loneW ++ nameW ++ rowW).all PyData.strOk = true := by decide +kernel
theorem sh_lone : SeqAt.shaped (.tuple (loneW.map .str)) = true := (sh_strs (by decide +kernel)).1
theorem sh_nameW : SeqAt.shaped (.tuple (nameW.map .str)) = true := (sh_strs (by decide +kernel)).1
theorem sh_rowW : SeqAt.shaped (.tuple (rowW.map .str)) = true := (sh_strs (by decide +kernel)).1
theorem sh_put : SeqAt.shaped (.str "put") = true := sh_str (by decide +kernel)
theorem sh_call : SeqAt.shaped (.str "call") = true := sh_str (by decide +kernel)
theorem sh_try : SeqAt.shaped (.str "try") = true := sh_str (by decide +kernel)
section
variable {P : Program} {w : World} {K : PySem.W.Frag} {mg : Str → Option Value} {base : Heap} {f g g2 g3 g4 g5 aN aR aL : Addr} {fd gd gd2 gd3 gd4 gd5 : FuncData}
theorem ed_words {b : List Addr} {σ : L2.St} {H : Hp} {a : Addr} {xs : List Str} (h : ∀ H, SqT K H a (xs.map V.str) ∧ TN K H a) : ED K b (tC (.ref a)) σ H (.tuple (xs.map .str)) := ed_c (.tup (h _).1 (h _).2 (strs_dps xs))
theorem ok_is_row (D : Def K mg "is_row" s_is_row ["thing", "at", "many", "called"] f fd) (D1 : Def K mg "is_worth" s_is_worth ["thing"] g gd) (G1 : FnOk P w K mg base CX0 2 g gd ["thing"] (spP K (fun ds => ds.length = 1) (F1 worthD)))
    (D2 : Def K mg "is_name" s_is_name ["thing"] g2 gd2) (G2 : FnOk P w K mg base CX0 1 g2 gd2 ["thing"] (spP K (fun ds => ds.length = 1 ∧ ∀ d, ds = [d] → okD 30 d = true) (F1 nameD)))
    (D3 : Def K mg "is_index" s_is_index ["thing", "many"] g3 gd3) (G3 : FnOk P w K mg base CX0 2 g3 gd3 ["thing", "many"] (spP K (fun ds => ds.length = 2 ∧ ∀ d n, ds = [d, n] → ∃ i, n = .int i) (F2 fun d n => indexD d (intOf n)))) (B : Blt mg) (W : Words K mg aN aR aL) :
    FnOk P w K mg base CX0 3 f fd ["thing", "at", "many", "called"] (spP K RowPre rowF) := by
  refine D.F.ok sc_is_row (fun vs H Q E h => spP_len (fun _ h => h.1) h) (fun cdv A outer s H vs Q E hr h => ?_)
  obtain ⟨b, ds, kn, hd, ⟨hp, hp2⟩, q⟩ := h
  obtain ⟨v, v2, v3, v4, d, d2, d3, d4, rfl, rfl, h1, h2, h3, h4⟩ := four_of hd hp
  obtain ⟨hok, ⟨i, rfl⟩, ⟨m, rfl⟩, xs, hxs, rfl⟩ := hp2 d d2 d3 d4 rfl
  refine ⟨_, pss_cons (ps_if (pt_not (pt_val (pe_callB call_isi rfl B.isi bb_isinstance (pa_cons (pv 0) (pa_cons (pe_tyN rfl B.tuple bt_tuple) pa_nil))))) (pss_one (ps_ret pe_bl)) pss_nil)
    (pss_cons (ps_if (pt_cmpR (op_eqD (hu64 hr)) (pe_callB call_lenD1 rfl B.len bb_len (pa_cons (pv 0) pa_nil)) pe_int (nomark _)) (pss_one (ps_ret (pe_cmpR (op_inT (hu65 hr)) (pe_ix ix_tup (pv 0) pe_int (fun _ _ => rfl)) (pe_gR W.mL) rfl))) pss_nil)
    (pss_cons (ps_if (pt_cmpR (op_neD (hu64 hr)) (pe_callB call_lenD1 rfl B.len bb_len (pa_cons (pv 0) pa_nil)) pe_int (nomark _)) (pss_one (ps_ret pe_bl)) pss_nil)
    (pss_cons (ps_asg (pv 0) (pg_tup rfl (pgs_cons (pg_name (i := 4) sc_is_row.nd rfl (Or.inl rfl)) (pgs_cons (pg_name (i := 5) sc_is_row.nd rfl (Or.inl rfl)) pgs_nil))))
    (pss_cons (ps_if (pt_cmpR (op_eqD (hu64 hr)) (pv 4) pe_str (nomark _)) (pss_one (ps_ret (pe_cd D1 G1 hr (pa_cons (pv 5) pa_nil)))) pss_nil)
    (pss_cons (ps_if (pt_cmpR (op_inT (hu65 hr)) (pv 4) (pe_gR W.mN) rfl) (pss_one (ps_ret (pe_cd D2 G2 (hr.mono (by decide)) (pa_cons (pv 5) pa_nil)))) pss_nil)
    (pss_cons (ps_if (pt_cmpR (op_eqD (hu64 hr)) (pv 4) pe_str (nomark _)) (pss_one (ps_ret (pe_cmpR (op_inD (hu65 hr)) (pv 5) (pv 3) rfl))) pss_nil)
    (pss_one (ps_ret (pe_and (pe_cmpR (op_inT (hu65 hr)) (pv 4) (pe_gR W.mR) rfl) (pe_and (pe_cd D3 G3 hr (pa_cons (pv 5) (pa_cons (pv 2) pa_nil)))
      (pe_one (pe_not (pe_and (pe_cmpR (op_eqD (hu64 hr)) (pv 4) pe_str (nomark _)) (pe_one (pe_cmpR (op_eqD (hu64 hr)) (pv 5) (pe_op op_add (pv 1) pe_int) (nomark _)))))))))))))))), ?_⟩
  have t1 := et_n (et_b (ed_isi (K := K) (b := b) (σ := start ["thing", "at", "many", "called", "word", "told"] [v, v2, v3, v4]) (H := H) (T := "tuple") (.inr (.inr (.inr (.inl rfl)))) (ed_var (i := 0) rfl h1)))
  cases hs : isD "tuple" d with
  | false =>
    rw [hs] at t1
    refine SR.fin ((sr_if (e := .none) t1 (fun _ => sr_ret ed_bl) fun h => nomatch h).to ?_) q
    have : rowD d i m (strsOf (xs.map .str)) = false := by
      cases d <;> first | rfl | (simp [isD, dTy, tyIs] at hs)
    show PyData.bool false = .bool (rowD d i m (strsOf (xs.map .str)))
    rw [this]
  | true =>
    obtain ⟨ds, rfl⟩ := isD_tuple hs
    rw [hs] at t1
    have okx : ∀ e ∈ ds, okD 30 e = true := fun e he => ok_up (ok_items (n := 29) hok e he) (by omega)
    have tl := ed_len (K := K) (b := b) (σ := start ["thing", "at", "many", "called", "word", "told"] [v, v2, v3, v4]) (ed_var (i := 0) rfl h1) (.inr (.inr hs)) fun y e => by cases e
    have t2 := et_t (ed_eq tl (ed_int (i := 1)) (sh_int _) (sh_int _))
    have t3 := et_t (ed_ne tl (ed_int (i := 2)) (sh_int _) (sh_int _))
    rw [eqv_int] at t2 t3
    by_cases hl1 : ds.length = 1
    · obtain ⟨a, rfl⟩ : ∃ a, ds = [a] := by
        match ds, hl1 with
        | [a], _ => exact ⟨a, rfl⟩
      refine SR.fin (((sr_if (d := .none) t1 (fun h => nomatch h) fun _ => sr_if (e := .none) t2 (fun _ => sr_ret (ed_inT (ed_ixT (ed_var rfl h1) ed_int (atI0 a [])) (ed_words W.kL) (ok_shaped (okx a (by simp))) sh_lone)) fun h => nomatch h)).to ?_) q
      rfl
    · have n1 : (((lenD (.tuple ds) : Nat) : Int) == 1) = false := beq_eq_false_iff_ne.mpr (by show ¬ ((ds.length : Nat) : Int) = 1; omega)
      rw [n1] at t2
      by_cases hl2 : ds.length = 2
      · obtain ⟨a, c, rfl⟩ : ∃ a c, ds = [a, c] := by
          match ds, hl2 with
          | [a, c], _ => exact ⟨a, c, rfl⟩
        have sa := ok_shaped (okx a (by simp))
        have sc := ok_shaped (okx c (by simp))
        refine SR.fin (((sr_if (d := .none) t1 (fun h => nomatch h) fun _ => sr_if (d := .none) t2 (fun h => nomatch h) fun _ => sr_if (d := .none) t3 (fun h => nomatch h) fun _ => sr_unpack2 (ed_var rfl h1) fun v5 v6 H' x' p1 p2 =>
          sr_if (et_t (ed_eq (ed_var rfl p1) ed_str sa sh_put)) (fun _ => sr_ret (ed_call (kn.up x') (ea_cons (ed_var rfl p2) ea_nil) (by rfl)))
          fun _ => sr_if (et_t (ed_inT (ed_var rfl p1) (ed_words W.kN) sa sh_nameW)) (fun _ => sr_ret (ed_call (kn.up x') (ea_cons (ed_var rfl p2) ea_nil) (by exact ⟨rfl, fun e' h' => by cases h'; exact okx c (by simp)⟩)))
          fun _ => sr_if (et_t (ed_eq (ed_var rfl p1) ed_str sa sh_call)) (fun _ => sr_ret (ed_inL (ed_var rfl p2) (ed_var rfl (Dq.up h4 x')) sc (sh_strs hxs).2))
          fun _ => sr_ret (ed_andB (ed_inT (ed_var rfl p1) (ed_words W.kR) sa sh_rowW) fun _ => ed_andB (ed_call (kn.up x') (ea_cons (ed_var rfl p2) (ea_cons (ed_var rfl (Dq.up h3 x')) ea_nil)) (by exact ⟨rfl, fun d n h' => by cases h'; exact ⟨m, rfl⟩⟩))
            fun _ => ed_not (ed_andB (ed_eq (ed_var rfl p1) ed_str sa sh_try) fun _ => ed_eq (ed_var rfl p2) (ed_add (ed_var rfl (Dq.up h2 x')) ed_int) sc (sh_int _))))).to ?_) q
        show _ = PyData.bool (rowD (.tuple [a, c]) i m (strsOf (xs.map .str)))
        rw [strsOf_map, rowD_two]
        cases PyData.eqv a (.str "put")
        · cases inD a (nameW.map .str)
          · cases PyData.eqv a (.str "call") <;> rfl
          · rfl
        · rfl
      · have n2 : (((lenD (.tuple ds) : Nat) : Int) == 2) = false := beq_eq_false_iff_ne.mpr (by show ¬ ((ds.length : Nat) : Int) = 2; omega)
        rw [n2] at t3
        refine SR.fin (((sr_if (d := .none) t1 (fun h => nomatch h) fun _ => sr_if (d := .none) t2 (fun h => nomatch h) fun _ => sr_if (e := .none) t3 (fun _ => sr_ret ed_bl) fun h => nomatch h)).to ?_) q
        have : rowD (.tuple ds) i m (strsOf (xs.map .str)) = false := by
          match ds, hl1, hl2 with
          | [], _, _ => rfl
          | [_], h, _ => exact absurd rfl h
          | [_, _], _, h => exact absurd rfl h
          | _ :: _ :: _ :: _, _, _ => rfl
        show PyData.bool false = .bool (rowD _ i m (strsOf (xs.map .str)))
        rw [this]
def RowsPre (ds : List PyData) : Prop := ds.length = 2 ∧ ∀ d c, ds = [d, c] → okD 30 d = true ∧ ∃ xs : List Str, xs.all PyData.strOk = true ∧ c = .list (xs.map .str)
def rowsF (ds : List PyData) : PyData := match ds with
  | [d, .list cs] => .bool (rowsD d (strsOf cs))
  | _ => .none
theorem ok_are_rows (D : Def K mg "are_rows" s_are_rows ["thing", "called"] f fd) (D1 : Def K mg "is_row" s_is_row ["thing", "at", "many", "called"] g gd) (G1 : FnOk P w K mg base CX0 3 g gd ["thing", "at", "many", "called"] (spP K RowPre rowF)) (B : Blt mg) {t : Tok} (mM : mg "MOST_PART_ROWS" = some (.int 60 t)) :
    FnOk P w K mg base CX0 4 f fd ["thing", "called"] (spP K RowsPre rowsF) := by
  refine D.F.ok sc_are_rows (fun vs H Q E h => spP_len (fun _ h => h.1) h) (fun cdv A outer s H vs Q E hr h => ?_)
  obtain ⟨b, ds, kn, hd, ⟨hp, hp2⟩, q⟩ := h
  obtain ⟨v, v2, d, d2, rfl, rfl, h1, h2⟩ := two_of hd hp
  obtain ⟨hok, xs, hxs, rfl⟩ := hp2 d d2 rfl
  refine ⟨_, pss_cons (ps_if (PW.pt (pw_or (pt_not (pt_val (pe_callB call_isi rfl B.isi bb_isinstance (pa_cons (pv 0) (pa_cons (pe_tyN rfl B.tuple bt_tuple) pa_nil)))))
      (pw_or1 (pt_not (pt_chain op_le op_le pe_int (pe_callB call_lenD1 rfl B.len bb_len (pa_cons (pv 0) pa_nil)) (pe_gI mM)))))) (pss_one (ps_ret pe_bl)) pss_nil)
    (pss_one (ps_ret (pe_callB (cr_all rfl) rfl B.all bb_all (pa_cons
      (pe_lc (own := [("at", 2), ("row", 3)]) (g := gTup K 2 (gCons (gName 2) (gCons (gName 3) gNil))) (tt := tYes) rfl sc_are_rows.nd (pi_enumT rfl B.enum (pa_cons (pv 0) pa_nil)) (blkOk_by (N := ["thing", "called", "at", "row"]) (sc := defScope s_are_rows) (by decide +kernel))
        (fun _ _ _ _ _ => pg_tup rfl (pgs_cons (pg_name (i := 2) sc_are_rows.nd rfl (Or.inl rfl)) (pgs_cons (pg_name (i := 3) sc_are_rows.nd rfl (Or.inl rfl)) pgs_nil))) (fun _ _ _ _ _ => pts_nil)
        (fun _ _ _ _ _ => pe_cd D1 G1 hr (pa_cons (pv 3) (pa_cons (pv 2) (pa_cons (pe_callB (r := rLen K) call_lenD1 rfl B.len bb_len (pa_cons (pv 0) pa_nil)) (pa_cons (pv 1) pa_nil)))))) pa_nil)))), ?_⟩
  have t1 := et_n (et_b (ed_isi (K := K) (b := b) (σ := start ["thing", "called", "at", "row"] [v, v2]) (H := H) (T := "tuple") (.inr (.inr (.inr (.inl rfl)))) (ed_var (i := 0) rfl h1)))
  cases hs : isD "tuple" d with
  | false =>
    rw [hs] at t1
    refine SR.fin ((sr_if (e := .none) (et_or (b := false) t1 fun h => nomatch h) (fun _ => sr_ret ed_bl) fun h => nomatch h).to ?_) q
    have : rowsD d (strsOf (xs.map .str)) = false := by
      cases d <;> first | rfl | (simp [isD, dTy, tyIs] at hs)
    show PyData.bool false = .bool (rowsD d (strsOf (xs.map .str)))
    rw [this]
  | true =>
    obtain ⟨ds, rfl⟩ := isD_tuple hs
    rw [hs] at t1
    have hlen := ok_len hok
    have okx : ∀ e ∈ ds, okD 30 e = true := fun e he => ok_up (ok_items (n := 29) hok e he) (by omega)
    have tl := et_or t1 fun _ => et_n (et_t (ed_chain (K := K) (b := b) (g := fun i j => decide (i ≤ j)) (g' := fun i j => decide (i ≤ j)) (ed_int (i := 1)) (ed_len (ed_var (i := 0) rfl h1) (.inr (.inr hs)) fun y e => by cases e) (ed_c (v := .int 60) (.int 60))))
    have lc := ed_lcE (K := K) (b := b) (te := tCall (spP K RowPre rowF) [] E0 (tCons (tVar 3) (tCons (tVar 2) (tCons (tCB (rLen K) (tCons (tVar 0) tNil)) (tCons (tVar 1) tNil))))) (k1 := 2) (k2 := 3) (f := fun i d => .bool (rowD d i ds.length xs)) kn (ed_var (σ := start ["thing", "called", "at", "row"] [v, v2]) (i := 0) rfl h1) (Nat.lt_of_le_of_lt hlen (by decide)) (fun _ _ => rfl)
      (fun i e v' H3 he x3 hv => (ed_call (kn.up x3) (ea_cons (ed_var rfl hv) (ea_cons (ed_var (d := .int (i : Nat)) rfl (.int _)) (ea_cons (ed_len (ed_var rfl (Dq.up h1 x3)) (.inr (.inr hs)) fun y e => by cases e) (ea_cons (ed_var rfl (Dq.up h2 x3)) ea_nil))))
        (by exact ⟨rfl, fun d i m c h' => by cases h'; exact ⟨okx e (List.mem_of_getElem? he), ⟨_, rfl⟩, ⟨_, rfl⟩, xs, hxs, rfl⟩⟩)).to (by
          show PyData.bool (rowD e i ds.length (strsOf (xs.map .str))) = _
          rw [strsOf_map])) (fun _ _ _ => rfl)
    have e0 : ((List.range ds.length).map fun i => PyData.bool (rowD (ds.getD i .none) i ds.length xs)) = ((List.range ds.length).map fun i => rowD (ds.getD i .none) i ds.length xs).map PyData.bool := by
      rw [List.map_map]
      rfl
    refine SR.fin ((sr_if tl (fun _ => sr_ret ed_bl) fun hc => sr_ret (ed_all (lc.to (by rw [e0])))).to ?_) q
    show _ = PyData.bool (rowsD (.tuple ds) (strsOf (xs.map .str)))
    rw [strsOf_map, all_map]
    unfold rowsD
    have e1 : decide ((1 : Int) ≤ (lenD (.tuple ds) : Nat)) = decide (1 ≤ ds.length) := by
      show decide ((1 : Int) ≤ (ds.length : Nat)) = _
      by_cases h : 1 ≤ ds.length
      · rw [decide_eq_true h, decide_eq_true (by omega)]
      · rw [decide_eq_false h, decide_eq_false (by omega)]
    have e2 : decide (((lenD (.tuple ds) : Nat) : Int) ≤ 60) = decide (ds.length ≤ 60) := by
      show decide (((ds.length : Nat) : Int) ≤ 60) = _
      by_cases h : ds.length ≤ 60
      · rw [decide_eq_true h, decide_eq_true (by omega)]
      · rw [decide_eq_false h, decide_eq_false (by omega)]
    rw [e1, e2]
    show (if (!(decide (1 ≤ ds.length) && decide (ds.length ≤ 60))) = true then _ else _) = PyData.bool ((decide (1 ≤ ds.length) && decide (ds.length ≤ 60)) && _)
    cases (decide (1 ≤ ds.length) && decide (ds.length ≤ 60)) <;> rfl
theorem name_strOk {x : Str} (h : nameS x = true) : PyData.strOk x = true := by
  unfold nameS at h
  rw [Bool.and_eq_true, Bool.and_eq_true] at h
  have h2 : x.cps.all (· < 128) = true := h.2.1
  show x.cps.all (· < 0x110000) = true
  rw [Array.all_eq_true] at h2 ⊢
  intro i hi
  have := of_decide_eq_true (h2 i hi)
  exact decide_eq_true (by omega)
def ProgPre (ds : List PyData) : Prop := ds.length = 1 ∧ ∀ d, ds = [d] → okD 30 d = true
theorem ok_is_program (D : Def K mg "is_program" s_is_program ["thing"] f fd) (D1 : Def K mg "are_headed" s_are_headed ["thing", "most"] g gd) (G1 : FnOk P w K mg base CX0 4 g gd ["thing", "most"] (spP K (fun ds => ds.length = 2 ∧ ∀ d n, ds = [d, n] → okD 30 d = true ∧ ∃ i, n = .int i) (F2 fun d n => headedAll d (intOf n))))
    (D2 : Def K mg "are_rows" s_are_rows ["thing", "called"] g2 gd2) (G2 : FnOk P w K mg base CX0 4 g2 gd2 ["thing", "called"] (spP K RowsPre rowsF)) (B : Blt mg) {t : Tok} (mP : mg "MOST_PARTS" = some (.int 8 t)) :
    FnOk P w K mg base CX0 5 f fd ["thing"] (spP K ProgPre (F1 progD)) := by
  refine D.F.ok sc_is_program (fun vs H Q E h => spP_len (fun _ h => h.1) h) (fun cdv A outer s H vs Q E hr h => ?_)
  obtain ⟨b, ds, kn, hd, ⟨hp, hok⟩, q⟩ := h
  obtain ⟨v, d, rfl, rfl, h1⟩ := one_of hd hp
  have hok := hok d rfl
  refine ⟨_, pss_cons (ps_if (pt_not (pt_val (pe_cd D1 G1 hr (pa_cons (pv 0) (pa_cons (pe_gI mP) pa_nil))))) (pss_one (ps_ret pe_bl)) pss_nil)
    (pss_cons (ps_set (i := 1) sc_is_program.nd rfl (Or.inr rfl)
      (pe_lc (own := [("part", 2)]) (g := gName 2) (tt := tYes) rfl sc_is_program.nd (pi_tup (pv 0)) (blkOk_by (N := ["thing", "called", "part"]) (sc := defScope s_is_program) (by decide +kernel)) (fun _ _ _ _ _ => pg_name (i := 2) sc_is_program.nd rfl (Or.inl rfl)) (fun _ _ _ _ _ => pts_nil)
        (fun _ _ _ _ _ => pe_ix (r := rIxT K) ix_tup (pv 2) pe_int (fun _ _ => rfl))))
    (pss_one (ps_ret (pe_callB (cr_all rfl) rfl B.all bb_all (pa_cons
      (pe_lc (own := [("part", 2)]) (g := gName 2) (tt := tYes) rfl sc_is_program.nd (pi_tup (pv 0)) (blkOk_by (N := ["thing", "called", "part"]) (sc := defScope s_is_program) (by decide +kernel)) (fun _ _ _ _ _ => pg_name (i := 2) sc_is_program.nd rfl (Or.inl rfl)) (fun _ _ _ _ _ => pts_nil)
        (fun _ _ _ _ _ => pe_cd D2 G2 hr (pa_cons (pe_ix (r := rIxT K) ix_tup (pv 2) pe_int (fun _ _ => rfl)) (pa_cons (pv 1) pa_nil)))) pa_nil))))), ?_⟩
  have t1 := et_n (et_b ((ed_call (K := K) (b := b) (E := E0) (σ := start ["thing", "called", "part"] [v]) (pre := fun ds => ds.length = 2 ∧ ∀ d n, ds = [d, n] → okD 30 d = true ∧ ∃ i, n = .int i) (f := F2 fun d n => headedAll d (intOf n)) kn (ea_cons (ed_var (i := 0) rfl h1) (ea_cons (ed_c (v := .int 8) (.int 8)) ea_nil)) ⟨rfl, fun d n h' => by cases h'; exact ⟨hok, _, rfl⟩⟩).to (show _ = PyData.bool (headedAll d 8) from rfl)))
  cases hs : headedAll d 8 with
  | false =>
    rw [hs] at t1
    refine SR.fin ((sr_if (e := .none) t1 (fun _ => sr_ret ed_bl) fun h => nomatch h).to ?_) q
    have : progD d = false := by
      cases d <;> first | rfl | (show (headedAll _ 8 && _) = false; rw [hs]; rfl)
    show PyData.bool false = .bool (progD d)
    rw [this]
  | true =>
    rw [hs] at t1
    obtain ⟨ds, rfl⟩ : ∃ ds, d = .tuple ds := by
      cases d <;> first | exact ⟨_, rfl⟩ | cases hs
    have hlen := ok_len hok
    have okx : ∀ e ∈ ds, okD 29 e = true := fun e he => ok_items (n := 29) hok e he
    have ha : ds.all headedD = true := by
      have : ((decide (1 ≤ ds.length) && decide ((ds.length : Int) ≤ 8)) && (ds.all headedD && unlikeS (strsOf (ds.map fst)))) = true := hs
      exact (Bool.and_eq_true_iff.mp (Bool.and_eq_true_iff.mp this).2).1
    have hh : ∀ e ∈ ds, ∃ a c z, e = .tuple [a, c, z] ∧ nameD a = true ∧ namesD c = true := fun e he => headed_fst (List.all_eq_true.mp ha e he)
    have hst : (ds.map fst).all (isD "str") = true := List.all_eq_true.mpr fun x hx => by
      obtain ⟨e, he, rfl⟩ := List.mem_map.mp hx
      obtain ⟨a, c, z, rfl, h4, _⟩ := hh e he
      exact nameD_str h4
    have e1 := map_strsOf hst
    have hso : (strsOf (ds.map fst)).all PyData.strOk = true := List.all_eq_true.mpr fun x hx => by
      have : PyData.str x ∈ ds.map fst := by
        rw [← e1]
        exact List.mem_map.mpr ⟨x, hx, rfl⟩
      obtain ⟨e, he, ex⟩ := List.mem_map.mp this
      obtain ⟨a, c, z, rfl, h4, _⟩ := hh e he
      have ea : a = .str x := ex
      subst ea
      exact name_strOk h4
    refine SR.fin ((sr_if (d := .none) t1 (fun h => nomatch h) fun _ => sr_set (e := .list (ds.map fst)) (ed_lcT1 (f := fst) kn (ed_var rfl h1) (Nat.lt_of_le_of_lt hlen (by decide)) (fun e v' H3 he x3 hv => by
        obtain ⟨a, c, z, rfl, _, _⟩ := hh e he
        exact ed_ixT (ed_var rfl hv) ed_int (atI0 a [c, z])) (fun e he => by
        obtain ⟨a, c, z, rfl, h4, _⟩ := hh e he
        obtain ⟨x, rfl⟩ := isD_str (nameD_str h4)
        rfl)) fun v2 H2 x2 hv2 => sr_ret (ed_allT (g := fun p => rowsD (thd p) (strsOf (ds.map fst))) (kn.up x2) (ed_var rfl (Dq.up h1 x2)) hlen fun e v' H3 he x3 hv => by
          obtain ⟨a, c, z, rfl, _, _⟩ := hh e he
          have okz : okD 28 z = true := ok_items (n := 28) (okx _ he) z (by simp)
          refine (ed_call ((kn.up x2).up x3) (ea_cons (ed_ixT (ed_var rfl hv) ed_int (atI2 a c z [])) (ea_cons (ed_var rfl (Dq.up hv2 x3)) ea_nil)) ?_).to ?_
          · refine ⟨rfl, fun d' c' h' => ?_⟩
            cases h'
            exact ⟨ok_up okz (by omega), strsOf (ds.map fst), hso, by rw [e1]⟩
          · rfl)).to ?_) q
    show PyData.bool _ = PyData.bool (headedAll (.tuple ds) 8 && _)
    rw [hs]
    rfl
end
end Wr

set_option Elab.async false
set_option linter.all false
set_option maxRecDepth 100000
set_option maxHeartbeats 4000000
namespace Wr
open PySem PySem.Spec PyProof.Rows L2 Evl
/-! ### a method of a tuple -/
def tBMT (K : PySem.W.Frag) (r : V → List V → Hp → VK → Prop) (to : TE) (t : TA) : TE := fun σ H Q => to σ H fun x H1 => (∃ a xs, x = .ref a ∧ SqT K H1 a xs ∧ TN K H1 a) ∧ t σ H1 fun xs H2 => r x xs H2 Q
theorem tn_is {X : Cx} {pins : List (Addr × Obj)} {σ : L2.St} {H : Hp} {s : Shared} {a : Addr} (I : Inv X pins σ H s) (h : TN X.K H a) : ∃ o, s.heap.get? a = some o ∧ o.dict = none := by
  rcases h with ⟨o, u, h1, h2⟩ | ⟨o, h1, _, h2⟩
  · exact ⟨o, (I.hok a _ h1).1, h2⟩
  · exact ⟨o, I.kIn a o h1, h2⟩
theorem pe_bmT {X : Cx} {o e : Expr} {es : List Expr} {to : TE} {t : TA} {name : Str} {id : String} {apos cpos : Pos} {r : V → List V → Hp → VK → Prop} (slot : Slot "tuple" name id) (hty : typeOf (.builtin id) = pure (.type "method_descriptor")) (hm : MtR X id r) (ho : PE X o to) (ha : PA X (e :: es) t)
    (hbase : attributeBase o name X.env (eval o X.env) = eval o X.env := by rfl)
    (hfew : ((backTo cpos (starEach (e :: es) X.env)).all (fun x => !x.1) && (backToKw cpos (keywordEach [] X.env)).all (fun x => x.1.isSome) && decide ((e :: es).length + ([] : List Keyword).length + (if ([] : List Keyword).isEmpty then 0 else 1) < 30)) = true := by rfl)
    (hline : (apos.endLine == cpos.line) = true := by rfl) (hs : starEach (e :: es) X.env = (false, eval e X.env) :: starEach es X.env := by rfl) (hplain : (backTo cpos (starEach es X.env)).any (·.1) = false := by rfl) :
    PE X (.Call (.Attribute o name apos) (e :: es) [] cpos) (tBMT X.K r to t) := by
  refine ⟨fun pins s σ H Q I h => ?_⟩
  refine wpAny_Call_method_late hbase hfew hline rfl (thn (ho.run pins s σ H _ I h) fun v s1 ⟨x, H1, I1, r1, ty, q1⟩ => ?_)
  obtain ⟨a, xs, rfl, hq, hn⟩ := ty
  cases r1
  obtain ⟨its, rv, p, _⟩ := I1.tuple hq
  refine ⟨"tuple", id, PySem.F.plainAttrs_tuple, slot, hty, p.typeIs, fun b e => ?_, ?_⟩
  · cases e
    exact tn_is I1 hn
  · have hA := ha.run cpos pins s1 σ H1 _ I1 q1
    rw [hs] at hA ⊢
    refine Calls.callWith_builtin (by show (false || (backTo cpos (starEach es X.env)).any (·.1)) = false; rw [hplain] <;> rfl) (Calls.evalArgs_plain ?_)
    exact thn hA fun us s2 ⟨vs, H2, I2, r2, q2⟩ => hm pins s2 σ H2 (.ref a) vs (.ref a) us Q I2 rfl r2 q2
/-! ### count -/
def countD (d : PyData) (ds : List PyData) : Nat := ds.countP fun z => PyData.eqv z d
def rCountT (K : PySem.W.Frag) : V → List V → Hp → VK → Prop := fun x xs H Q => ∃ y d ds, xs = [y] ∧ Dp K H x (.tuple ds) ∧ Dp K H y d ∧ SeqAt.shaped (.tuple ds) = true ∧ SeqAt.shaped d = true ∧ Q (.int (countD d ds : Nat)) H
def rCountL (K : PySem.W.Frag) : V → List V → Hp → VK → Prop := fun x xs H Q => ∃ y d ds, xs = [y] ∧ Dp K H x (.list ds) ∧ Dp K H y d ∧ SeqAt.shaped (.list ds) = true ∧ SeqAt.shaped d = true ∧ Q (.int (countD d ds : Nat)) H
theorem count_map {h : Heap} {its : List Value} {ds : List PyData} {d : PyData} (hm : its.map (SeqAt.readOf h) = ds) : its.countP (fun u => PyData.eqv (SeqAt.readOf h u) d) = countD d ds := by
  unfold countD
  rw [← hm, List.countP_map]
  rfl
theorem mt_countT {X : Cx} (hu : X.A.units + 65 < cLine) : MtR X "tuple.count" (rCountT X.K) := by
  intro pins s σ H x xs v us Q I rx rxs ⟨y, d, ds, e1, hl, hy, sl, sd, q⟩
  subst e1
  obtain ⟨uy, rfl, ry⟩ := vals1 rxs
  obtain ⟨bs, r1⟩ := Dp.reads I d y uy hy ry
  have hxs : PyData.canLayAll0 ds = true := by
    have := SeqAt.canLay_of_shaped sl
    simpa only [PyData.canLay0] using this
  have hroom : X.A.units + 1 + min (PyData.depthAll ds) d.depth < cLine := room_in_shaped sd hu
  cases hl with
  | tup hs ha =>
    cases rx
    obtain ⟨its, rv, ⟨⟨cls, dd, data, sls⟩, ho, hc, n, hd⟩, hlen⟩ := I.tuple hs
    simp only at hc hd
    subst hc hd
    obtain ⟨as, h4⟩ := Dp.readsAll I ds _ its ha rv
    have hm := SeqAt.readsAll_map ds its as hxs h4
    refine call_meets PySem.F.slot_tuple_count ⟨_, ho, rfl⟩ PySem.F.entry_tuple_count (PySem.F.args_tuple_count_2 _ _)
      (SeqAt.tuple_countAt _ its.toArray n dd sls uy fun u => PyData.eqv (SeqAt.readOf s.heap u) d) ⟨ho, SeqAt.items_eqAt (vs := its.toArray) h4 r1 hxs (SeqAt.canLay_of_shaped sd) hroom, ?_⟩
    refine ⟨.int (countD d ds : Nat), H, I.tok _, ⟨s.toks, ?_⟩, q⟩
    rw [List.toList_toArray, count_map hm]
theorem mt_countL {X : Cx} (hu : X.A.units + 65 < cLine) : MtR X "list.count" (rCountL X.K) := by
  intro pins s σ H x xs v us Q I rx rxs ⟨y, d, ds, e1, hl, hy, sl, sd, q⟩
  subst e1
  obtain ⟨uy, rfl, ry⟩ := vals1 rxs
  obtain ⟨bs, r1⟩ := Dp.reads I d y uy hy ry
  have hxs : PyData.canLayAll0 ds = true := by
    have := SeqAt.canLay_of_shaped sl
    simpa only [PyData.canLay0] using this
  have hroom : X.A.units + 1 + min (PyData.depthAll ds) d.depth < cLine := room_in_shaped sd hu
  cases hl with
  | lst hs ha =>
    cases rx
    obtain ⟨its, rv, ⟨⟨cls, dd, data, sls⟩, n, ho, hc, hdn, hd⟩, hlen⟩ := I.list hs
    simp only at hc hd
    subst hc hd
    obtain ⟨as, h4⟩ := Dp.readsAll I ds _ its ha rv
    have hm := SeqAt.readsAll_map ds its as hxs h4
    refine call_meets PySem.F.slot_list_count ⟨_, ho, rfl⟩ PySem.F.entry_list_count (PySem.F.args_list_count_2 _ _)
      (SeqAt.list_countAt _ its.toArray n dd sls uy fun u => PyData.eqv (SeqAt.readOf s.heap u) d) ⟨ho, SeqAt.items_eqAt (vs := its.toArray) h4 r1 hxs (SeqAt.canLay_of_shaped sd) hroom, ?_⟩
    refine ⟨.int (countD d ds : Nat), H, I.tok _, ⟨s.toks, ?_⟩, q⟩
    rw [List.toList_toArray, count_map hm]
/-! ### not in range -/
def rNinR : R2 := fun x y H Q => ∃ i a lo hi, x = V.int i ∧ y = V.ref a ∧ H a = some (.rng lo hi) ∧ Q (.bl (!decide (lo ≤ i ∧ i < hi))) H
theorem op_ninR {X : Cx} : OpR X (compareOp .NotIn) rNinR := by
  intro pins s σ H x y v u Q I rx ry ⟨i, a, lo, hi, e1, e2, ha, q⟩
  subst e1 e2
  obtain ⟨k, rfl⟩ := rx
  obtain rfl : u = Value.ref a := ry
  obtain ⟨t1, t2, t3, ho⟩ := I.hok a _ ha
  show wpAny _ _ (do return Value.bool (!(← contains (Value.ref a) (Value.int i k)))) _ _ s
  refine wpAny_bind (wpAny_contains_slot (T := "range") ⟨_, ho, rfl⟩ PySem.F.slot_range_contains (call_meets PySem.F.slot_range_contains ⟨_, ho, rfl⟩ PySem.F.entry_range_contains
    (PySem.F.args_range_contains_2 _ _) (q_contains a lo hi i t1 t2 t3 k) ⟨ho, wpAny_truthy_bool (wpAny_pure ⟨.bl _, H, I, rfl, ?_⟩)⟩))
  rw [place1]
  exact q
section
variable {K : PySem.W.Frag} {b : List Addr} {σ : L2.St} {H H' : Hp} {ta tb te : TE} {tt : TT} {ts : TS} {d a c e : PyData} {ds : List PyData}
theorem ed_countT (ha : ED K b ta σ H (.tuple ds)) (hb : ED K b tb σ H d) (sl : SeqAt.shaped (.tuple ds) = true) (sd : SeqAt.shaped d = true) : ED K b (tBMT K (rCountT K) ta (tCons tb tNil)) σ H (.int (countD d ds : Nat)) := fun H1 x1 Q q =>
  ha H1 x1 _ fun x H2 x2 hx => by
    have hx' := hx
    cases hx' with
    | tup h1 hn _ =>
      exact ⟨⟨_, _, rfl, ex_t hid_le h1, hn.ex hid_le⟩, hb H2 (x1.trans x2) _ fun y H3 x3 hy => ⟨y, d, ds, rfl, (Dq.up hx x3).dp, hy.dp, sl, sd, q _ H3 (x2.trans x3) (.int _)⟩⟩
theorem ed_countL (ha : ED K b ta σ H (.list ds)) (hb : ED K b tb σ H d) (sl : SeqAt.shaped (.list ds) = true) (sd : SeqAt.shaped d = true) : ED K b (tBM K "list" (rCountL K) ta (tCons tb tNil)) σ H (.int (countD d ds : Nat)) := fun H1 x1 Q q =>
  ha H1 x1 _ fun x H2 x2 hx => by
    have hx' := hx
    cases hx' with
    | lst h1 _ =>
      exact ⟨.inl ⟨rfl, _, ex_l hid_le h1⟩, hb H2 (x1.trans x2) _ fun y H3 x3 hy => ⟨y, d, ds, rfl, (Dq.up hx x3).dp, hy.dp, sl, sd, q _ H3 (x2.trans x3) (.int _)⟩⟩
theorem sr_unpack3 {i j k : Nat} (h : ED K b te σ H (.tuple [a, c, e])) (kk : ∀ v1 v2 v3 H', Ex H H' → Dq K b H' v1 a → Dq K b H' v2 c → Dq K b H' v3 e → SR K b ts (((σ.set i (some v1)).set j (some v2)).set k (some v3)) H' d) :
    SR K b (tSeq (tAsg te (gTup K 3 (gCons (gName i) (gCons (gName j) (gCons (gName k) gNil))))) ts) σ H d := fun H1 x1 D q =>
  h H1 x1 _ fun v H2 x2 hv => by
    cases hv with
    | tup h1 _ h2 =>
      cases h2 with
      | cons p1 p2 =>
        cases p2 with
        | cons p3 p4 =>
          cases p4 with
          | cons p5 p6 =>
            cases p6
            exact ⟨_, _, rfl, ex_t hid_le h1, rfl, _, _, rfl, _, _, rfl, _, _, rfl, rfl, kk _ _ _ H2 (x1.trans x2) p1 p3 p5 H2 (Ex.refl H2) D fun z H4 x4 hz => q _ H4 (x2.trans x4) hz⟩
/-- one sign in a written text -/
def rInSg : R2 := fun x y H Q => ∃ (c : Nat) (z : Str), x = .str ⟨#[c]⟩ ∧ y = .str z ∧ Q (.bl (decide (c ∈ z.cps.toList))) H
theorem op_inSg {X : Cx} : OpR X (compareOp .In) rInSg := op_in_sign
theorem ed_inSg {c : Nat} {z : Str} (ha : ED K b ta σ H (.str ⟨#[c]⟩)) (hb : ED K b tb σ H (.str z)) : ED K b (tOp rInSg ta tb) σ H (.bool (decide (c ∈ z.cps.toList))) :=
  ed_op ha hb fun H1 x y Q _ hx hy q => ⟨c, z, dq_str hx, dq_str hy, q _ H1 (Ex.refl H1) (.bl _)⟩
/-- sep.join(texts) -/
def rJoin (K : PySem.W.Frag) : V → List V → Hp → VK → Prop := fun x xs H Q => ∃ a p, ∃ ys : List Str, x = .str a ∧ xs = [.ref p] ∧ (SqL K H p (ys.map V.str) ∨ SqT K H p (ys.map V.str)) ∧ (ys.map (·.length)).sum + ys.length * a.length ≤ 16777216 ∧ Q (.str (Txt.join a ys)) H
theorem mt_joinD {X : Cx} : MtR X "str.join" (rJoin X.K) := mt_join
theorem ed_join {z : Str} {ys : List Str} (ha : ED K b ta σ H (.str z)) (hb : ED K b tb σ H (.list (ys.map PyData.str))) (hl : (ys.map (·.length)).sum + ys.length * z.length ≤ 16777216) : ED K b (tBM K "str" (rJoin K) ta (tCons tb tNil)) σ H (.str (Txt.join z ys)) := fun H1 x1 Q q =>
  ha H1 x1 _ fun x H2 x2 hx => by
    cases hx
    refine ⟨rfl, hb H2 (x1.trans x2) _ fun y H3 x3 hy => ?_⟩
    have hy' := hy.dd
    cases hy' with
    | lst h1 h2 =>
      rw [dps_strs h2] at h1
      exact ⟨z, _, ys, rfl, rfl, .inl h1, hl, q _ H3 (x2.trans x3) (.str _)⟩
/-- text.split(sep) -/
def rSplit : V → List V → Hp → VK → Prop := fun x xs H Q => ∃ a b, x = .str a ∧ xs = [.str b] ∧ (b.length == 0) = false ∧ a.length + 2 ≤ sizeLine ∧ rNewStrs (Txt.split a b) H Q
theorem mt_splitD {X : Cx} : MtR X "str.split" rSplit := mt_split
theorem ed_split {z y : Str} (kn : Kn b H) (ha : ED K b ta σ H (.str z)) (hb : ED K b tb σ H (.str y)) (hy : (y.length == 0) = false) (hl : z.length + 2 ≤ sizeLine) : ED K b (tBM K "str" rSplit ta (tCons tb tNil)) σ H (.list ((Txt.split z y).map PyData.str)) := fun H1 x1 Q q =>
  ha H1 x1 _ fun x H2 x2 hx => by
    cases hx
    refine ⟨rfl, hb H2 (x1.trans x2) _ fun v H3 x3 hv => ?_⟩
    cases hv
    exact ⟨z, y, rfl, rfl, hy, hl, fun p hp => q _ _ ((x2.trans x3).trans (Ex.new hp)) (.lst (.inl (.inl (hid_new ((kn.up ((x1.trans x2).trans x3)).new hp)))) (strs_dps _))⟩
/-- len(..) not in range(lo, hi) -/
theorem ed_ninR {i lo hi : Int} {tlo thi : TE} (ha : ED K b ta σ H (.int i)) (h1 : ED K b tlo σ H (.int lo)) (h2 : ED K b thi σ H (.int hi)) :
    ED K b (tOp rNinR ta (tCB (fun vs H Q => ∃ i j, vs = [V.int i, V.int j] ∧ ∀ p, H p = none → Q (.ref p) (upd H p (.rng i j))) (tCons tlo (tCons thi tNil)))) σ H (.bool (!decide (lo ≤ i ∧ i < hi))) := fun H1 x1 Q q =>
  ha H1 x1 _ fun x H2 x2 hx => h1 H2 (x1.trans x2) _ fun y H3 x3 hy => h2 H3 ((x1.trans x2).trans x3) _ fun z H4 x4 hz => ⟨lo, hi, by rw [dq_int hy, dq_int hz], fun p hp =>
    ⟨i, p, lo, hi, dq_int hx, rfl, upd_same, q _ _ (((x2.trans x3).trans x4).trans (Ex.new hp)) (.bl _)⟩⟩
end
end Wr

set_option Elab.async false
set_option linter.all false
set_option maxRecDepth 100000
set_option maxHeartbeats 4000000
namespace Wr
open PySem PySem.Spec PyProof.Rows L2 Evl
abbrev abc : Str := "abcdefghijklmnopqrstuvwxyz"
/-! ### what a name is, told twice -/
def azS (x : Str) : Bool := decide (1 ≤ x.length ∧ x.length < 9) && x.cps.toList.all fun c => decide (c ∈ abc.cps.toList)
theorem abc_mem (c : Nat) : c ∈ abc.cps.toList ↔ 97 ≤ c ∧ c ≤ 122 := by
  have e : abc.cps.toList = (List.range 26).map (· + 97) := by decide +kernel
  rw [e, List.mem_map]
  constructor
  · rintro ⟨a, ha, rfl⟩
    have := List.mem_range.mp ha
    omega
  · rintro ⟨h1, h2⟩
    exact ⟨c - 97, List.mem_range.mpr (by omega), by omega⟩
theorem uni_tab : ((List.range 128).all fun c => (Unicode.isAlpha c && !(Unicode.isUpper c || Unicode.isTitle c)) == (decide (97 ≤ c) && decide (c ≤ 122)) && ((!(decide (97 ≤ c) && decide (c ≤ 122))) || Unicode.isLower c)) = true := by decide +kernel
theorem uni_at {c : Nat} (h : c < 128) : (Unicode.isAlpha c && !(Unicode.isUpper c || Unicode.isTitle c)) = (decide (97 ≤ c) && decide (c ≤ 122)) ∧ ((97 ≤ c ∧ c ≤ 122) → Unicode.isLower c = true) := by
  have q := List.all_eq_true.mp uni_tab c (List.mem_range.mpr h)
  rw [Bool.and_eq_true] at q
  refine ⟨by simpa using q.1, fun h' => ?_⟩
  have q2 := q.2
  rw [decide_eq_true h'.1, decide_eq_true h'.2] at q2
  simpa using q2
theorem nameS_az (x : Str) : nameS x = azS x := by
  have key : nameS x = true ↔ azS x = true := by
    unfold nameS azS Txt.isascii Txt.isalpha Txt.islower
    simp only [Bool.and_eq_true, decide_eq_true_eq, Array.all_eq_true', List.all_eq_true, Bool.not_eq_true', Array.any_eq_false', Array.any_eq_true']
    constructor
    · rintro ⟨h8, ha, ⟨h0, hal⟩, ⟨c, hc, hl⟩, hn⟩
      have hlen : 0 < x.length := h0
      refine ⟨⟨by omega, by omega⟩, fun c hc => ?_⟩
      have hc' : c ∈ x.cps := by simpa using hc
      have h1 := (uni_at (ha c hc')).1
      have h2 := hal c hc'
      have h3 := hn c hc'
      have h3' : (Unicode.isUpper c || Unicode.isTitle c) = false := by simpa using h3
      rw [h2, h3'] at h1
      have h1' : (decide (97 ≤ c) && decide (c ≤ 122)) = true := h1.symm
      rw [Bool.and_eq_true] at h1'
      exact (abc_mem c).mpr ⟨of_decide_eq_true h1'.1, of_decide_eq_true h1'.2⟩
    · rintro ⟨⟨h1, h2⟩, hall⟩
      have az : ∀ c ∈ x.cps, 97 ≤ c ∧ c ≤ 122 := fun c hc => (abc_mem c).mp (hall c (by simpa using hc))
      have hs : 0 < x.cps.size := h1
      refine ⟨by omega, fun c hc => by have := az c hc; omega, ⟨hs, fun c hc => ?_⟩, ⟨x.cps[0], Array.getElem_mem hs, ?_⟩, fun c hc => ?_⟩
      · have h := (uni_at (c := c) (by have := az c hc; omega)).1
        rw [decide_eq_true (az c hc).1, decide_eq_true (az c hc).2] at h
        simp only [Bool.and_self, Bool.and_eq_true] at h
        exact h.1
      · have h := az _ (Array.getElem_mem hs)
        exact (uni_at (by omega)).2 h
      · have h := (uni_at (c := c) (by have := az c hc; omega)).1
        rw [decide_eq_true (az c hc).1, decide_eq_true (az c hc).2] at h
        simp only [Bool.and_self, Bool.and_eq_true] at h
        simpa using h.2
  cases h1 : nameS x <;> cases h2 : azS x
  · rfl
  · rw [h1, h2] at key; exact absurd (key.mpr rfl) (by decide)
  · rw [h1, h2] at key; exact absurd (key.mp rfl) (by decide)
  · rfl
end Wr

set_option Elab.async false
set_option linter.all false
set_option maxRecDepth 100000
set_option maxHeartbeats 4000000
namespace Wr
open PySem PySem.Spec PyProof.Rows L2 TL
/-! ### numbers read, sign by sign -/
def goN (sg : List Nat) : Int → List Nat → Option Int
  | acc, [] => some acc
  | acc, c :: r => if c ∈ sg then goN sg (acc * (sg.length : Nat) + (sg.idxOf c : Nat)) r else none
def plN (sg l : List Nat) : Option Int :=
  if (!(decide (1 ≤ l.length) && decide (l.length ≤ 40)) || (l.head? == some 48 && !(l == [48]))) = true then none else goN sg 0 l
def sgN (l ahead sg : List Nat) : Option Int :=
  if (ahead.isPrefixOf (if l.head? = some 45 then l.drop 1 else l)) = true then
    match plN sg ((if l.head? = some 45 then l.drop 1 else l).drop ahead.length) with
    | none => none
    | some n => if l.head? = some 45 then (if n = 0 then none else some (-n)) else some n
  else none
def tenL : List Nat := [48, 49, 50, 51, 52, 53, 54, 55, 56, 57]
def sixL : List Nat := tenL ++ [97, 98, 99, 100, 101, 102]
def tensN (l : List Nat) : Option Int := sgN l [] tenL
def bothN (l : List Nat) : Option Int := match tensN l with
  | some n => some n
  | none => sgN l [120] sixL
/-! ### what is written by tens is read -/
theorem ten_ix : ∀ c, 48 ≤ c → c ≤ 57 → c ∈ tenL ∧ tenL.idxOf c = c - 48 := by
  intro c h1 h2
  have : c = 48 ∨ c = 49 ∨ c = 50 ∨ c = 51 ∨ c = 52 ∨ c = 53 ∨ c = 54 ∨ c = 55 ∨ c = 56 ∨ c = 57 := by omega
  rcases this with h | h | h | h | h | h | h | h | h | h <;> subst h <;> decide
theorem go_digits : ∀ (l : List Nat) (a : Int), NumText.AllDigits l → goN tenL a l = some (l.foldl (fun (t : Int) (c : Nat) => t * 10 + ((c : Int) - 48)) a)
  | [], _, _ => rfl
  | c :: r, a, h => by
    have hc := h.head
    obtain ⟨h1, h2⟩ := ten_ix c hc.1 hc.2
    unfold goN
    rw [if_pos h1, h2, go_digits r _ h.tail, List.foldl_cons]
    have e : a * ((tenL.length : Nat) : Int) + ((c - 48 : Nat) : Int) = a * 10 + ((c : Int) - 48) := by
      have e1 : ((tenL.length : Nat) : Int) = 10 := rfl
      have := hc.1
      rw [e1]
      omega
    rw [e]
theorem go_num (n : Nat) : goN tenL 0 (numL n) = some (n : Int) := by
  rw [go_digits _ _ (numL_digits n), fold_num]
theorem numL_head : ∀ n : Nat, 0 < n → (numL n).head? ≠ some 48 := by
  intro n
  induction n using Nat.strongRecOn with
  | _ n ih =>
    intro h0
    by_cases h : n < 10
    · rw [numL_lt h]
      intro e
      have := Option.some.inj e
      omega
    · rw [numL_step (by omega)]
      have := ih (n / 10) (by omega) (by omega)
      cases e : numL (n / 10) with
      | nil => exact absurd e (numL_ne _)
      | cons x r =>
        rw [e] at this
        exact this
theorem pl_num {n : Nat} (h : n < 10 ^ 40) : plN tenL (numL n) = some (n : Int) := by
  unfold plN
  have h1 : (numL n).length ≤ 40 := numL_len (by decide) h
  have h2 : 1 ≤ (numL n).length := List.length_pos_iff.mpr (numL_ne n)
  have h3 : ((numL n).head? == some 48 && !(numL n == [48])) = false := by
    by_cases h0 : n = 0
    · subst h0
      rw [numL_lt (by decide)]
      decide
    · have := numL_head n (by omega)
      have e : ((numL n).head? == some 48) = false := beq_eq_false_iff_ne.mpr this
      rw [e]
      rfl
  rw [decide_eq_true h1, decide_eq_true h2, h3]
  exact go_num n
/-- how a number is written -/
def intL (i : Int) : List Nat := if i < 0 then 45 :: numL (-i).toNat else numL i.toNat
theorem tl_int (i : Int) : tl (Str.ofString (toString i)) = intL i := by
  unfold intL
  by_cases h : i < 0
  · rw [if_pos h]
    obtain ⟨n, rfl⟩ : ∃ n : Nat, i = -((n : Nat) + 1 : Int) := ⟨(-i - 1).toNat, by omega⟩
    have e1 : (-(-(((n : Nat) : Int) + 1))).toNat = n + 1 := by omega
    rw [e1]
    have e2 : -(((n : Nat) : Int) + 1) = Int.negSucc n := by omega
    rw [e2]
    have e3 : toString (Int.negSucc n) = "-" ++ toString (n + 1) := rfl
    rw [e3]
    have e4 := tl_num (n + 1)
    have e5 : toString (((n + 1 : Nat)) : Int) = toString (n + 1) := rfl
    rw [e5] at e4
    rw [← e4]
    show ((Str.ofString ("-" ++ toString (n + 1))).cps).toList = _
    unfold Str.ofString
    simp only [tl, String.toByteArray_append, ByteArray.data_append, Array.toList_append]
    rfl
  · rw [if_neg h]
    have e := tl_num i.toNat
    rw [Int.toNat_of_nonneg (by omega)] at e
    exact e
theorem sg_int {i : Int} (h : i.natAbs < 10 ^ 40) : tensN (intL i) = some i := by
  unfold tensN sgN intL
  by_cases hi : i < 0
  · rw [if_pos hi]
    have e0 : (45 :: numL (-i).toNat).head? = some 45 := rfl
    rw [if_pos e0]
    have e1 : (([] : List Nat).isPrefixOf ((45 :: numL (-i).toNat).drop 1)) = true := by simp
    rw [if_pos e1]
    have e2 : ((45 :: numL (-i).toNat).drop 1).drop ([] : List Nat).length = numL (-i).toNat := rfl
    rw [e2, pl_num (by omega)]
    show (if (45 :: numL (-i).toNat).head? = some 45 then (if (((-i).toNat : Nat) : Int) = 0 then none else some (-(((-i).toNat : Nat) : Int))) else some (((-i).toNat : Nat) : Int)) = some i
    rw [if_pos e0]
    show (if (((-i).toNat : Nat) : Int) = 0 then none else some (-(((-i).toNat : Nat) : Int))) = some i
    rw [if_neg (by omega)]
    congr 1
    omega
  · rw [if_neg hi]
    have e0 : ¬ (numL i.toNat).head? = some 45 := by
      intro e
      have hm : (45 : Nat) ∈ numL i.toNat := List.mem_of_head? e
      exact numL_free (n := i.toNat) (s := 45) (by omega) hm
    rw [if_neg e0]
    have e1 : (([] : List Nat).isPrefixOf (numL i.toNat)) = true := by simp
    rw [if_pos e1]
    have e2 : (numL i.toNat).drop ([] : List Nat).length = numL i.toNat := rfl
    rw [e2, pl_num (by omega)]
    show (if (numL i.toNat).head? = some 45 then (if ((i.toNat : Nat) : Int) = 0 then none else some (-((i.toNat : Nat) : Int))) else some ((i.toNat : Nat) : Int)) = some i
    rw [if_neg e0]
    show some ((i.toNat : Nat) : Int) = some i
    congr 1
    omega
theorem both_int {i : Int} (h : i.natAbs < 10 ^ 40) : bothN (intL i) = some i := by
  unfold bothN
  rw [sg_int h]
theorem intL_free {i : Int} {s : Nat} (h : s = 32 ∨ s = 10) : s ∉ intL i := by
  unfold intL
  split
  · intro hm
    rcases List.mem_cons.mp hm with e | hm
    · omega
    · exact numL_free (by omega) hm
  · exact numL_free (by omega)
/-! ### two figures -/
def twoL (n : Nat) : List Nat := [48 + n / 10, 48 + n % 10]
end Wr


set_option Elab.async false
set_option linter.all false
set_option maxRecDepth 100000
set_option maxHeartbeats 4000000
namespace Wr
open PySem PySem.Spec PyProof.Rows L2 Evl TL
/-! ### rows and parts as they are written -/
inductive Rw where
  | lone (w : Str)
  | nm (w x : Str)
  | num (w : Str) (i : Int)
def Rw.d : Rw → PyData
  | .lone w => .tuple [.str w]
  | .nm w x => .tuple [.str w, .str x]
  | .num w i => .tuple [.str w, .int i]
structure Pt where
  name : Str
  names : List Str
  rows : List Rw
def Pt.d (p : Pt) : PyData := .tuple [.str p.name, .tuple (p.names.map .str), .tuple (p.rows.map Rw.d)]
def prD (ps : List Pt) : PyData := .tuple (ps.map Pt.d)
def numT (i : Int) : Str := Str.ofString (toString i)
def twoS (n : Nat) : Str := ⟨(twoL n).toArray⟩
def bl1 : Str := " "
def ln1 : Str := "\n"
theorem tl_bl : tl bl1 = [32] := by decide +kernel
theorem tl_ln : tl ln1 = [10] := by decide +kernel
/-- the words of a row, how its number is written left open -/
def Rw.wsW (f : Int → Str) : Rw → List Str
  | .lone w => [w]
  | .nm w x => [w, x]
  | .num w i => [w, f i]
def rowLW (f : Int → Str) (at_ : Nat) (r : Rw) : Str := Txt.join bl1 (twoS at_ :: r.wsW f)
def rowsLW (f : Int → Str) : Nat → List Rw → List Str
  | _, [] => []
  | n, r :: rs => rowLW f n r :: rowsLW f (n + 1) rs
def headL (p : Pt) : Str := Txt.join bl1 ("part" :: p.name :: p.names)
def ptLW (f : Int → Str) (p : Pt) : List Str := headL p :: rowsLW f 0 p.rows
def linesW (f : Int → Str) (ps : List Pt) : List Str := ps.flatMap (ptLW f)
def showW (f : Int → Str) (ps : List Pt) : Str := Txt.join ln1 (linesW f ps)
/-! ### read -/
def readRow : List Str → Option Rw
  | [w] => if w ∈ loneW then some (.lone w) else none
  | [w, t] => if w = "call" ∨ w ∈ nameW then (if nameS t = true then some (.nm w t) else none)
    else if w = "put" then (bothN (tl t)).map (.num w)
    else if w ∈ rowW then (match tensN (tl t) with
      | some n => if n < 0 then none else some (.num w n)
      | none => none)
    else none
  | _ => none
def isHead : List Str → Bool
  | w :: x :: r => decide (w = "part") && (nameS x && r.all nameS)
  | _ => false
def hasRows (st : List Pt) : Bool := match st.getLast? with
  | none => true
  | some p => !p.rows.isEmpty
def addRow (st : List Pt) (r : Rw) : List Pt := match st.getLast? with
  | none => st
  | some p => st.dropLast ++ [⟨p.name, p.names, p.rows ++ [r]⟩]
def stepL (st : List Pt) (line : Str) : Option (List Pt) :=
  if (isHead (Txt.split line bl1) && hasRows st) = true then some (st ++ [⟨(Txt.split line bl1).getD 1 "", (Txt.split line bl1).drop 2, []⟩])
  else match readRow ((Txt.split line bl1).drop 1), st.getLast? with
    | some r, some p => if (decide (p.rows.length < 100) && decide ((Txt.split line bl1).headD "" = twoS p.rows.length)) = true then some (addRow st r) else none
    | _, _ => none
def readAll : List Pt → List Str → Option (List Pt)
  | st, [] => some st
  | st, l :: r => match stepL st l with
    | none => none
    | some st' => readAll st' r
/-! ### what is written well -/
def RwOk : Rw → Prop
  | .lone w => w ∈ loneW
  | .nm w x => (w = "call" ∨ w ∈ nameW) ∧ nameS x = true
  | .num w i => (w = "put" ∧ i.natAbs ≤ 1000000000000000000000000000000000000000) ∨ (w ∈ rowW ∧ 0 ≤ i ∧ i ≤ 60)
structure PtOk (p : Pt) : Prop where
  nm : nameS p.name = true
  nms : ∀ x ∈ p.names, nameS x = true
  l3 : p.names.length ≤ 4
  r0 : p.rows ≠ []
  r60 : p.rows.length ≤ 61
  rs : ∀ r ∈ p.rows, RwOk r
/-- a way to write numbers that is read -/
structure WrOk (f : Int → Str) : Prop where
  put : ∀ i : Int, i.natAbs ≤ 1000000000000000000000000000000000000000 → bothN (tl (f i)) = some i
  row : ∀ i : Int, 0 ≤ i → i ≤ 60 → tensN (tl (f i)) = some i
  free : ∀ (i : Int) (s : Nat), s = 32 ∨ s = 10 → s ∉ tl (f i)
theorem nameS_tl {x : Str} (h : nameS x = true) : ∀ c ∈ tl x, 97 ≤ c ∧ c ≤ 122 := by
  rw [nameS_az] at h
  unfold azS at h
  rw [Bool.and_eq_true] at h
  intro c hc
  exact (abc_mem c).mp (of_decide_eq_true (List.all_eq_true.mp h.2 c hc))
theorem nameS_free {x : Str} {s : Nat} (h : nameS x = true) (hs : s = 32 ∨ s = 10) : s ∉ tl x := fun hm => by
  have := nameS_tl h s hm
  omega
theorem words_free : (loneW ++ nameW ++ rowW ++ [("call" : Str), "put", "part"]).all (fun w => !((tl w).contains 32) && !((tl w).contains 10)) = true := by decide +kernel
theorem word_free {w : Str} {s : Nat} (h : w ∈ loneW ++ nameW ++ rowW ++ [("call" : Str), "put", "part"]) (hs : s = 32 ∨ s = 10) : s ∉ tl w := fun hm => by
  have q := List.all_eq_true.mp words_free w h
  rw [Bool.and_eq_true] at q
  rcases hs with rfl | rfl
  · have q1 := q.1
    rw [List.contains_iff_mem.mpr hm] at q1
    cases q1
  · have q1 := q.2
    rw [List.contains_iff_mem.mpr hm] at q1
    cases q1
theorem two_free {n s : Nat} (h : n < 100) (hs : s = 32 ∨ s = 10) : s ∉ tl (twoS n) := fun hm => by
  have hm : s ∈ [48 + n / 10, 48 + n % 10] := hm
  rcases List.mem_cons.mp hm with e | hm
  · omega
  · rcases List.mem_cons.mp hm with e | hm
    · omega
    · cases hm
theorem ws_free {f : Int → Str} (F : WrOk f) {r : Rw} (h : RwOk r) {s : Nat} (hs : s = 32 ∨ s = 10) : ∀ w ∈ r.wsW f, s ∉ tl w := by
  intro w hw
  cases r with
  | lone v =>
    have e : w = v := List.mem_singleton.mp hw
    subst e
    have h : w ∈ loneW := h
    exact word_free (by simp [h]) hs
  | nm v x =>
    obtain ⟨h1, h2⟩ : (v = "call" ∨ v ∈ nameW) ∧ nameS x = true := h
    rcases List.mem_cons.mp hw with e | hw
    · subst e
      rcases h1 with e | e
      · exact word_free (by rw [e]; simp) hs
      · exact word_free (by simp [e]) hs
    · have e : w = x := List.mem_singleton.mp hw
      subst e
      exact nameS_free h2 hs
  | num v i =>
    have h : (v = "put" ∧ i.natAbs ≤ 1000000000000000000000000000000000000000) ∨ (v ∈ rowW ∧ 0 ≤ i ∧ i ≤ 60) := h
    rcases List.mem_cons.mp hw with e | hw
    · subst e
      rcases h with ⟨e, _⟩ | ⟨e, _⟩
      · exact word_free (by rw [e]; simp) hs
      · exact word_free (by simp [e]) hs
    · have e : w = f i := List.mem_singleton.mp hw
      subst e
      exact F.free i s hs
theorem split_bl {ws : List Str} (hne : ws ≠ []) (h : ∀ w ∈ ws, 32 ∉ tl w) : Txt.split (Txt.join bl1 ws) bl1 = ws := split_join tl_bl (by decide +kernel) hne h
theorem split_ln {ws : List Str} (hne : ws ≠ []) (h : ∀ w ∈ ws, 10 ∉ tl w) : Txt.split (Txt.join ln1 ws) ln1 = ws := split_join tl_ln (by decide +kernel) hne h
theorem mem_joinL {S : List Nat} {c : Nat} : ∀ {ps : List (List Nat)}, c ∈ joinL S ps → c ∈ S ∨ ∃ p ∈ ps, c ∈ p
  | [], h => by cases h
  | [p], h => .inr ⟨p, by simp, h⟩
  | p :: q :: r, h => by
    have h : c ∈ p ++ (S ++ joinL S (q :: r)) := h
    rcases List.mem_append.mp h with h | h
    · exact .inr ⟨p, by simp, h⟩
    · rcases List.mem_append.mp h with h | h
      · exact .inl h
      · rcases mem_joinL h with h | ⟨z, hz, h⟩
        · exact .inl h
        · exact .inr ⟨z, List.mem_cons_of_mem _ hz, h⟩
theorem join_free {ws : List Str} (h : ∀ w ∈ ws, 10 ∉ tl w) : 10 ∉ tl (Txt.join bl1 ws) := by
  rw [join_eq, tl_join, tl_bl]
  intro hm
  rcases mem_joinL hm with hm | ⟨p, hp, hm⟩
  · exact absurd (List.mem_singleton.mp hm) (by decide)
  · obtain ⟨w, hw, rfl⟩ := List.mem_map.mp hp
    exact h w hw hm
theorem rowW_split {f : Int → Str} (F : WrOk f) {r : Rw} {n : Nat} (h : RwOk r) (hn : n < 100) : Txt.split (rowLW f n r) bl1 = twoS n :: r.wsW f := by
  refine split_bl (by simp) fun w hw => ?_
  rcases List.mem_cons.mp hw with e | hw
  · subst e
    exact two_free hn (.inl rfl)
  · exact ws_free F h (.inl rfl) w hw
theorem headW_split {p : Pt} (h : PtOk p) : Txt.split (headL p) bl1 = ("part" : Str) :: p.name :: p.names := by
  refine split_bl (by simp) fun w hw => ?_
  rcases List.mem_cons.mp hw with e | hw
  · exact word_free (by rw [e]; simp) (.inl rfl)
  · rcases List.mem_cons.mp hw with e | hw
    · rw [e]; exact nameS_free h.nm (.inl rfl)
    · exact nameS_free (h.nms w hw) (.inl rfl)
theorem row_line {f : Int → Str} (F : WrOk f) {r : Rw} {n : Nat} (h : RwOk r) (hn : n < 100) : 10 ∉ tl (rowLW f n r) := join_free fun w hw => by
  rcases List.mem_cons.mp hw with e | hw
  · subst e
    exact two_free hn (.inr rfl)
  · exact ws_free F h (.inr rfl) w hw
theorem head_line {p : Pt} (h : PtOk p) : 10 ∉ tl (headL p) := join_free fun w hw => by
  rcases List.mem_cons.mp hw with e | hw
  · exact word_free (by rw [e]; simp) (.inr rfl)
  · rcases List.mem_cons.mp hw with e | hw
    · rw [e]; exact nameS_free h.nm (.inr rfl)
    · exact nameS_free (h.nms w hw) (.inr rfl)
theorem rows_line {f : Int → Str} (F : WrOk f) : ∀ (rs : List Rw) (n : Nat), (∀ r ∈ rs, RwOk r) → n + rs.length ≤ 100 → ∀ l ∈ rowsLW f n rs, 10 ∉ tl l
  | [], _, _, _, l, hl => by cases hl
  | r :: rs, n, h, hn, l, hl => by
    have hn : n + (rs.length + 1) ≤ 100 := hn
    have hl : l ∈ rowLW f n r :: rowsLW f (n + 1) rs := hl
    rcases List.mem_cons.mp hl with e | hl
    · rw [e]
      exact row_line F (h r List.mem_cons_self) (by omega)
    · exact rows_line F rs (n + 1) (fun r hr => h r (List.mem_cons_of_mem _ hr)) (by omega) l hl
theorem lines_free {f : Int → Str} (F : WrOk f) {ps : List Pt} (h : ∀ p ∈ ps, PtOk p) : ∀ l ∈ linesW f ps, 10 ∉ tl l := by
  intro l hl
  obtain ⟨p, hp, hl⟩ := List.mem_flatMap.mp hl
  have ok := h p hp
  have hl : l ∈ headL p :: rowsLW f 0 p.rows := hl
  rcases List.mem_cons.mp hl with e | hl
  · rw [e]; exact head_line ok
  · exact rows_line F p.rows 0 ok.rs (by have := ok.r60; omega) l hl
theorem show_split {f : Int → Str} (F : WrOk f) {ps : List Pt} (hne : ps ≠ []) (h : ∀ p ∈ ps, PtOk p) : Txt.split (showW f ps) ln1 = linesW f ps := by
  refine split_ln ?_ (lines_free F h)
  cases ps with
  | nil => exact absurd rfl hne
  | cons p r =>
    show (headL p :: rowsLW f 0 p.rows) ++ r.flatMap (ptLW f) ≠ []
    simp
/-! ### read back -/
theorem tabs : (nameW.all fun w => !(decide (w = "call"))) = true ∧ (decide (("put" : Str) = "call") || decide (("put" : Str) ∈ nameW)) = false ∧ (rowW.all fun w => !(decide (w = "call") || decide (w ∈ nameW) || decide (w = "put"))) = true := by
  refine ⟨?_, ?_, ?_⟩ <;> decide +kernel
theorem readRow_ws {f : Int → Str} (F : WrOk f) {r : Rw} (h : RwOk r) : readRow (r.wsW f) = some r := by
  cases r with
  | lone w =>
    have h : w ∈ loneW := h
    show (if w ∈ loneW then some (Rw.lone w) else none) = _
    rw [if_pos h]
  | nm w x =>
    obtain ⟨h1, h2⟩ : (w = "call" ∨ w ∈ nameW) ∧ nameS x = true := h
    show (if w = "call" ∨ w ∈ nameW then (if nameS x = true then some (Rw.nm w x) else none) else _) = _
    rw [if_pos h1, if_pos h2]
  | num w i =>
    have h : (w = "put" ∧ i.natAbs ≤ 1000000000000000000000000000000000000000) ∨ (w ∈ rowW ∧ 0 ≤ i ∧ i ≤ 60) := h
    show (if w = "call" ∨ w ∈ nameW then (if nameS (f i) = true then some (Rw.nm w (f i)) else none) else if w = "put" then (bothN (tl (f i))).map (.num w) else if w ∈ rowW then (match tensN (tl (f i)) with
      | some n => if n < 0 then none else some (.num w n)
      | none => none) else none) = _
    rcases h with ⟨e, hi⟩ | ⟨hw, i0, i1⟩
    · subst e
      have q := tabs.2.1
      rw [Bool.or_eq_false_iff] at q
      rw [if_neg (by rintro (z | z); exact of_decide_eq_false q.1 z; exact of_decide_eq_false q.2 z), if_pos rfl, F.put i hi]
      rfl
    · have q := List.all_eq_true.mp tabs.2.2 w hw
      rw [Bool.not_eq_true', Bool.or_eq_false_iff, Bool.or_eq_false_iff] at q
      rw [if_neg (by rintro (z | z); exact of_decide_eq_false q.1.1 z; exact of_decide_eq_false q.1.2 z), if_neg (of_decide_eq_false q.2), if_pos hw, F.row i i0 i1]
      show (if i < 0 then none else some (Rw.num w i)) = _
      rw [if_neg (by omega)]
theorem two_part (n : Nat) : twoS n ≠ "part" := fun e => by
  have e2 : (twoS n).length = ("part" : Str).length := by rw [e]
  have e3 : ("part" : Str).length = 4 := by decide +kernel
  rw [e3] at e2
  cases e2
theorem last_app {st : List Pt} {p : Pt} : (st ++ [p]).getLast? = some p := by simp
theorem step_row {f : Int → Str} (F : WrOk f) {st : List Pt} {p : Pt} {r : Rw} (h : RwOk r) (hn : p.rows.length < 100) :
    stepL (st ++ [p]) (rowLW f p.rows.length r) = some (st ++ [⟨p.name, p.names, p.rows ++ [r]⟩]) := by
  unfold stepL
  rw [rowW_split F h hn]
  have e1 : isHead (twoS p.rows.length :: r.wsW f) = false := by
    unfold isHead
    split
    · rename_i w x r' e
      have ew : twoS p.rows.length = w := by injection e
      rw [← ew, decide_eq_false (two_part _)]
      rfl
    · rfl
  rw [e1, Bool.false_and, if_neg Bool.false_ne_true, List.drop_one, List.tail_cons, readRow_ws F h, last_app]
  show (if (decide (p.rows.length < 100) && decide (twoS p.rows.length = twoS p.rows.length)) = true then some (addRow (st ++ [p]) r) else none) = _
  rw [decide_eq_true hn, decide_eq_true rfl]
  show some (addRow (st ++ [p]) r) = _
  unfold addRow
  rw [last_app]
  show some ((st ++ [p]).dropLast ++ _) = _
  rw [List.dropLast_concat]
theorem read_rows {f : Int → Str} (F : WrOk f) (rest : List Str) : ∀ (rs : List Rw) (st : List Pt) (p : Pt), (∀ r ∈ rs, RwOk r) → p.rows.length + rs.length ≤ 100 →
    readAll (st ++ [p]) (rowsLW f p.rows.length rs ++ rest) = readAll (st ++ [⟨p.name, p.names, p.rows ++ rs⟩]) rest
  | [], st, p, _, _ => by
    rw [List.append_nil]
    rfl
  | r :: rs, st, p, h, hn => by
    have hn : p.rows.length + (rs.length + 1) ≤ 100 := hn
    show readAll (st ++ [p]) (rowLW f p.rows.length r :: (rowsLW f (p.rows.length + 1) rs ++ rest)) = _
    show (match stepL (st ++ [p]) (rowLW f p.rows.length r) with | none => none | some st' => readAll st' (rowsLW f (p.rows.length + 1) rs ++ rest)) = _
    rw [step_row F (h r List.mem_cons_self) (by omega)]
    show readAll (st ++ [⟨p.name, p.names, p.rows ++ [r]⟩]) (rowsLW f (p.rows.length + 1) rs ++ rest) = _
    have ih := read_rows F rest rs st ⟨p.name, p.names, p.rows ++ [r]⟩ (fun r hr => h r (List.mem_cons_of_mem _ hr)) (by
      show (p.rows ++ [r]).length + _ ≤ _
      rw [List.length_append, List.length_singleton]
      omega)
    have el : (p.rows ++ [r]).length = p.rows.length + 1 := by rw [List.length_append, List.length_singleton]
    rw [el, List.append_assoc] at ih
    exact ih
theorem step_head {st : List Pt} {p : Pt} (ok : PtOk p) (hst : hasRows st = true) : stepL st (headL p) = some (st ++ [⟨p.name, p.names, []⟩]) := by
  unfold stepL
  rw [headW_split ok]
  have e1 : isHead (("part" : Str) :: p.name :: p.names) = true := by
    show (decide (("part" : Str) = "part") && (nameS p.name && p.names.all nameS)) = true
    rw [decide_eq_true rfl, ok.nm, List.all_eq_true.mpr ok.nms]
    rfl
  rw [e1, hst]
  rfl
theorem hasRows_app {st : List Pt} {p : Pt} (h : p.rows ≠ []) : hasRows (st ++ [p]) = true := by
  unfold hasRows
  rw [last_app]
  show (!p.rows.isEmpty) = true
  cases e : p.rows with
  | nil => exact absurd e h
  | cons _ _ => rfl
theorem read_back {f : Int → Str} (F : WrOk f) : ∀ (ps st : List Pt), (∀ p ∈ ps, PtOk p) → hasRows st = true → readAll st (linesW f ps) = some (st ++ ps)
  | [], st, _, _ => by
    rw [List.append_nil]
    rfl
  | p :: ps, st, h, hst => by
    have ok := h p List.mem_cons_self
    show readAll st (headL p :: (rowsLW f 0 p.rows ++ linesW f ps)) = _
    show (match stepL st (headL p) with | none => none | some st' => readAll st' (rowsLW f 0 p.rows ++ linesW f ps)) = _
    rw [step_head ok hst]
    show readAll (st ++ [⟨p.name, p.names, []⟩]) (rowsLW f 0 p.rows ++ linesW f ps) = _
    have e := read_rows F (linesW f ps) p.rows st ⟨p.name, p.names, []⟩ ok.rs (by have := ok.r60; show 0 + _ ≤ _; omega)
    have e : readAll (st ++ [⟨p.name, p.names, []⟩]) (rowsLW f 0 p.rows ++ linesW f ps) = readAll (st ++ [⟨p.name, p.names, p.rows⟩]) (linesW f ps) := e
    rw [e, read_back F ps _ (fun q hq => h q (List.mem_cons_of_mem _ hq)) (hasRows_app ok.r0), List.append_assoc]
    rfl
theorem numT_ok : WrOk numT := by
  refine ⟨fun i hi => ?_, fun i i0 i1 => ?_, fun i s hs => ?_⟩
  · unfold numT
    rw [tl_int]
    exact both_int (Nat.lt_of_le_of_lt hi (by decide))
  · unfold numT
    rw [tl_int]
    exact sg_int (Nat.lt_of_le_of_lt (show i.natAbs ≤ 60 by omega) (by decide))
  · unfold numT
    rw [tl_int]
    exact intL_free hs
end Wr

set_option Elab.async false
set_option linter.all false
set_option maxRecDepth 100000
set_option maxHeartbeats 4000000
namespace Wr
open PySem PySem.Spec PyProof.Rows L2 Evl
/-! ### a heap that grows but for the bag at a -/
def ExB (a : Addr) (H H' : Hp) : Prop := ∀ c o, c ≠ a → H c = some o → H' c = some o
theorem ExB.refl (a : Addr) (H : Hp) : ExB a H H := fun _ _ _ h => h
theorem ExB.trans {a : Addr} {H H1 H2 : Hp} (x : ExB a H H1) (y : ExB a H1 H2) : ExB a H H2 := fun c o n h => y c o n (x c o n h)
theorem exb {a : Addr} {H H1 : Hp} (x : Ex H H1) : ExB a H H1 := fun c o _ h => x c o h
theorem hid_exB {b : List Addr} {a : Addr} {H H' : Hp} (ha : a ∈ b) (e : ExB a H H') : Ex (hid b H) (hid b H') := fun c o h => by
  obtain ⟨h1, h2⟩ := hid_some h
  rw [hid_ne h1]
  exact e c o (fun z => h1 (z ▸ ha)) h2
theorem Dq.upB {K : PySem.W.Frag} {b : List Addr} {a : Addr} {H H' : Hp} {v : V} {d : PyData} (ha : a ∈ b) (h : Dq K b H v d) (e : ExB a H H') : Dq K b H' v d := dp_ex (hid_exB ha e) d v h
theorem DqAll.upB {K : PySem.W.Frag} {b : List Addr} {a : Addr} {H H' : Hp} {vs : List V} {ds : List PyData} (ha : a ∈ b) (h : DqAll K b H vs ds) (e : ExB a H H') : DqAll K b H' vs ds := dps_ex (hid_exB ha e) ds vs h
/-- the bag at a: the digits that are left, and what is mixed -/
def Bag (a : Addr) (_ : Nat) (H : Hp) : Prop := ∃ g x : Int, H a = some (.lst [.int g, .int x]) ∧ 0 ≤ g ∧ 0 ≤ x ∧ x < 2147483648
theorem Bag.any {a : Addr} {n m : Nat} {H : Hp} (h : Bag a n H) : Bag a m H := h
theorem Bag.le {a : Addr} {n m : Nat} {H : Hp} (h : Bag a n H) (_ : m ≤ n) : Bag a m H := h
theorem Bag.ex {a : Addr} {n : Nat} {H H' : Hp} (h : Bag a n H) (e : Ex H H') : Bag a n H' := by
  obtain ⟨g, x, h1, r⟩ := h
  exact ⟨g, x, e _ _ h1, r⟩
theorem Bag.there {a : Addr} {n : Nat} {H : Hp} (h : Bag a n H) : H a ≠ none := by
  obtain ⟨g, x, h1, _⟩ := h
  rw [h1]
  intro z
  cases z
theorem Bag.kn {a : Addr} {n : Nat} {H : Hp} (h : Bag a n H) : Kn [a] H := fun c hc => by
  rw [List.mem_singleton.mp hc]
  exact h.there
theorem ExB.kn {a : Addr} {n : Nat} {b : List Addr} {H H' : Hp} (k : Kn b H) (x : ExB a H H') (h : Bag a n H') : Kn b H' := fun c hc z => by
  by_cases e : c = a
  · subst e
    exact h.there z
  · cases q : H c with
    | none => exact k c hc q
    | some o =>
      rw [x c o e q] at z
      cases z
/-! ### what is evaluated while things are taken from the bag -/
section
variable (K : PySem.W.Frag) (b : List Addr) (a : Addr) (n m : Nat)
def EG (te : TE) (σ : L2.St) (H : Hp) (P : PyData → Prop) : Prop := ∀ H1, ExB a H H1 → Kn b H1 → Bag a n H1 → ∀ Q : VK, (∀ v d H2, ExB a H1 H2 → Bag a m H2 → Dq K b H2 v d → P d → Q v H2) → te σ H1 Q
def EGA (ta : TA) (σ : L2.St) (H : Hp) (P : List PyData → Prop) : Prop := ∀ H1, ExB a H H1 → Kn b H1 → Bag a n H1 → ∀ Q : List V → Hp → Prop, (∀ vs ds H2, ExB a H1 H2 → Bag a m H2 → DqAll K b H2 vs ds → P ds → Q vs H2) → ta σ H1 Q
def GS (ts : TS) (σ : L2.St) (H : Hp) (P : PyData → Prop) : Prop := ∀ H1, ExB a H H1 → Kn b H1 → Bag a n H1 → ∀ D : Ends, (∀ v d H2, ExB a H1 H2 → Bag a m H2 → Dq K b H2 v d → P d → D.rt v H2) → ts D σ H1
end
theorem EG.any {K : PySem.W.Frag} {b : List Addr} {a : Addr} {n m n' m' : Nat} {te : TE} {σ : L2.St} {H : Hp} {P : PyData → Prop} (h : EG K b a n m te σ H P) : EG K b a n' m' te σ H P := h
theorem EGA.any {K : PySem.W.Frag} {b : List Addr} {a : Addr} {n m n' m' : Nat} {te : TA} {σ : L2.St} {H : Hp} {P : List PyData → Prop} (h : EGA K b a n m te σ H P) : EGA K b a n' m' te σ H P := h
theorem GS.any {K : PySem.W.Frag} {b : List Addr} {a : Addr} {n m n' m' : Nat} {te : TS} {σ : L2.St} {H : Hp} {P : PyData → Prop} (h : GS K b a n m te σ H P) : GS K b a n' m' te σ H P := h
def spG (K : PySem.W.Frag) (n : Nat) (pre : List PyData → Prop) (P : List PyData → PyData → Prop) : Sp := fun vs H Q _ =>
  ∃ b a k ws ds, vs = .ref a :: ws ∧ a ∈ b ∧ Kn b H ∧ Bag a (k + n) H ∧ DqAll K b H ws ds ∧ pre ds ∧ ∀ v d H', ExB a H H' → Bag a k H' → Dq K b H' v d → P ds d → Q v H'
section
variable {K : PySem.W.Frag} {b : List Addr} {a : Addr} {n m k : Nat} {σ : L2.St} {H H' : Hp} {ta tb te : TE} {t : TA} {tt : TT} {ts t1 t2 : TS} {P P' : PyData → Prop} {d : PyData}
theorem EG.imp (h : EG K b a n m te σ H P) (hp : ∀ d, P d → P' d) : EG K b a n m te σ H P' := fun H1 x1 kn bg Q q => h H1 x1 kn bg Q fun v d H2 x2 b2 hv p => q v d H2 x2 b2 hv (hp d p)
theorem EG.mono (x : ExB a H H') (h : EG K b a n m te σ H P) : EG K b a n m te σ H' P := fun H1 x1 => h H1 (x.trans x1)
theorem EG.le {m' : Nat} (h : EG K b a n m te σ H P) (hm : m' ≤ m) : EG K b a n m' te σ H P := fun H1 x1 kn bg Q q => h H1 x1 kn bg Q fun v d H2 x2 b2 hv p => q v d H2 x2 (b2.le hm) hv p
theorem eg_pure (h : ∀ H1, ExB a H H1 → Kn b H1 → ED K b te σ H1 d) (p : P d) : EG K b a n n te σ H P := fun H1 x1 kn bg Q q => h H1 x1 kn H1 (Ex.refl H1) Q fun v H2 x2 hv => q v d H2 (exb x2) (bg.ex x2) hv p
theorem eg_var {i : Nat} {v : V} (hv : σ[i]? = some (some v)) (ha : a ∈ b) (hd : Dq K b H v d) (p : P d) : EG K b a n n (tVar i) σ H P := eg_pure (fun H1 x1 _ => ed_var hv (hd.upB ha x1)) p
theorem ega_nil : EGA K b a n n tNil σ H (· = []) := fun H1 x1 kn bg Q q => q [] [] H1 (ExB.refl a H1) bg .nil rfl
theorem ega_cons {R : List PyData → Prop} (ha : a ∈ b) (h1 : EG K b a n k ta σ H P) (h2 : EGA K b a k m t σ H R) : EGA K b a n m (tCons ta t) σ H (fun ds => ∃ d r, ds = d :: r ∧ P d ∧ R r) := fun H1 x1 kn bg Q q =>
  h1 H1 x1 kn bg _ fun v d H2 x2 b2 hv p => h2 H2 (x1.trans x2) (x2.kn kn b2) b2 _ fun vs ds H3 x3 b3 hvs r => q _ (d :: ds) H3 (x2.trans x3) b3 (.cons (hv.upB ha x3) hvs) ⟨d, ds, rfl, p, r⟩
/-- a call of a def that takes from the bag -/
theorem eg_call {c : Nat} {pre : List PyData → Prop} {R : List PyData → PyData → Prop} {S : List PyData → Prop} {E : XK} {i : Nat} (ha : a ∈ b) (hb : σ[i]? = some (some (.ref a))) (hargs : EGA K b a n (m + c) t σ H S) (hp : ∀ ds, S ds → pre ds) (hr : ∀ ds d, S ds → R ds d → P d) :
    EG K b a n m (tCall (spG K c pre R) [] E (tCons (tVar i) t)) σ H P := fun H1 x1 kn bg Q q =>
  ⟨.ref a, hb, hargs H1 x1 kn bg _ fun vs ds H2 x2 b2 hvs s => ⟨b, a, m, vs, ds, by rw [List.append_nil], ha, x2.kn kn b2, b2, hvs, hp ds s, fun v d H3 x3 b3 hv r => q v d H3 (x2.trans x3) b3 hv (hr ds d s r)⟩⟩
theorem gs_ret (h : EG K b a n m te σ H P) : GS K b a n m (tRet te) σ H P := fun H1 x1 kn bg D q => h H1 x1 kn bg _ q
theorem gs_if {c : Bool} (hc : ∀ H1, ExB a H H1 → Kn b H1 → EvT tt σ H1 c) (h1 : c = true → GS K b a n m t1 σ H P) (h2 : c = false → GS K b a n m t2 σ H P) : GS K b a n m (tSeq (tIfS tt t1 tNext) t2) σ H P := fun H1 x1 kn bg D q =>
  hc H1 x1 kn H1 (Ex.refl H1) _ fun H2 x2 => by
    cases c with
    | true =>
      rw [if_pos rfl]
      exact h1 rfl H2 (x1.trans (exb x2)) (kn.up x2) (bg.ex x2) _ fun v d H3 x3 b3 hv p => q v d H3 ((exb x2).trans x3) b3 hv p
    | false =>
      rw [if_neg Bool.false_ne_true]
      exact h2 rfl H2 (x1.trans (exb x2)) (kn.up x2) (bg.ex x2) _ fun v d H3 x3 b3 hv p => q v d H3 ((exb x2).trans x3) b3 hv p
theorem gs_set {i : Nat} {P1 : PyData → Prop} (h : EG K b a n k te σ H P1) (kk : ∀ v d H', ExB a H H' → Dq K b H' v d → P1 d → GS K b a k m ts (σ.set i (some v)) H' P) : GS K b a n m (tSeq (tAsg te (gName i)) ts) σ H P := fun H1 x1 kn bg D q =>
  h H1 x1 kn bg _ fun v d H2 x2 b2 hv p => kk v d H2 (x1.trans x2) hv p H2 (ExB.refl a H2) (x2.kn kn b2) b2 D fun v' d' H3 x3 b3 hv' p' => q v' d' H3 (x2.trans x3) b3 hv' p'
/-- a conditional expression whose test is pure -/
theorem eg_if {c : Bool} (hc : ∀ H1, ExB a H H1 → Kn b H1 → EvT tt σ H1 c) (h1 : c = true → EG K b a n m ta σ H P) (h2 : c = false → EG K b a n m tb σ H P) : EG K b a n m (tIf tt ta tb) σ H P := fun H1 x1 kn bg Q q =>
  hc H1 x1 kn H1 (Ex.refl H1) _ fun H2 x2 => by
    cases c with
    | true =>
      rw [if_pos rfl]
      exact h1 rfl H2 (x1.trans (exb x2)) (kn.up x2) (bg.ex x2) _ fun v d H3 x3 b3 hv p => q v d H3 ((exb x2).trans x3) b3 hv p
    | false =>
      rw [if_neg Bool.false_ne_true]
      exact h2 rfl H2 (x1.trans (exb x2)) (kn.up x2) (bg.ex x2) _ fun v d H3 x3 b3 hv p => q v d H3 ((exb x2).trans x3) b3 hv p
/-- two operands, the operation pure on their data -/
theorem eg_op {r : R2} {P1 P2 : PyData → Prop} (ha : a ∈ b) (h1 : EG K b a n k ta σ H P1) (h2 : EG K b a k m tb σ H P2) (hr : ∀ d e H1 x y (Q : VK), P1 d → P2 e → ExB a H H1 → Kn b H1 → Dq K b H1 x d → Dq K b H1 y e → (∀ v z H2, Ex H1 H2 → Dq K b H2 v z → P z → Q v H2) → r x y H1 Q) : EG K b a n m (tOp r ta tb) σ H P := fun H1 x1 kn bg Q q =>
  h1 H1 x1 kn bg _ fun v d H2 x2 b2 hv p1 => h2 H2 (x1.trans x2) (x2.kn kn b2) b2 _ fun w e H3 x3 b3 hw p2 =>
    hr d e H3 v w Q p1 p2 ((x1.trans x2).trans x3) (x3.kn (x2.kn kn b2) b3) (hv.upB ha x3) hw fun u z H4 x4 hu p => q u z H4 ((x2.trans x3).trans (exb x4)) (b3.ex x4) hu p
/-- a new tuple of what is evaluated -/
theorem eg_tup {R : List PyData → Prop} (h : EGA K b a n m t σ H R) (hl : ∀ ds, R ds → ds.length ≤ sizeLine ∧ P (.tuple ds)) : EG K b a n m (tTupF t) σ H P := fun H1 x1 kn bg Q q =>
  h H1 x1 kn bg _ fun vs ds H2 x2 b2 hvs r => ⟨by rw [dps_len hvs]; exact (hl ds r).1, fun p o hp ho => by
    have e := hid_new (o := HO.frz o (.tup vs)) (H := H2) ((x2.kn kn b2).new hp)
    exact q _ (.tuple ds) _ (x2.trans (exb (Ex.new hp))) (b2.ex (Ex.new hp)) (.tup (.inl (.inr ⟨_, e⟩)) (.inl ⟨_, _, e, ho⟩) (hvs.up (Ex.new hp))) (hl ds r).2⟩
end
theorem GS.fin {K : PySem.W.Frag} {b : List Addr} {a : Addr} {n m : Nat} {σ : L2.St} {H : Hp} {ts : TS} {P : PyData → Prop} {D : Ends} (h : GS K b a n m ts σ H P) (kn : Kn b H) (bg : Bag a n H) (q : ∀ v d H', ExB a H H' → Bag a m H' → Dq K b H' v d → P d → D.rt v H') : ts D σ H := h H (ExB.refl a H) kn bg D q
/-! ### wide powers -/
def CPowW (i j : Int) : Prop := 0 ≤ j ∧ j ≤ 100 ∧ i.natAbs < 2 ^ 1000
theorem op_powW {X : Cx} : OpR X (binaryOp .Pow) (rI CPowW fun i j => .int (i ^ j.toNat)) := opI fun i j _ _ _ _ _ hc q => pow_int hc.1 (by
  have hlog : i.natAbs.log2 < 1000 := by
    by_cases h0 : i.natAbs = 0
    · rw [h0]; decide
    · exact (Nat.log2_lt h0).mpr hc.2.2
  have h1 : (Builtin.Int.intBits i : Nat) ≤ 1001 := by
    unfold Builtin.Int.intBits
    split <;> omega
  have h2 := hc.2.1
  have h3 := hc.1
  have h4 : ((Builtin.Int.intBits i : Nat) : Int) ≤ 1001 := by omega
  have h5 : ((Builtin.Int.intBits i : Nat) : Int) * j ≤ 1001 * 100 := Int.mul_le_mul h4 h2 h3 (by decide)
  exact Int.le_trans h5 (by decide)) q
end Wr

set_option Elab.async false
set_option linter.all false
set_option maxRecDepth 100000
set_option maxHeartbeats 4000000
namespace Wr
open PySem PySem.Spec PyProof.Rows L2 Evl
abbrev s_take : Stmt := topS 54
abbrev NT : List Str := ["_law_bag_here", "_law_many", "_law_digit"]
theorem sc_take : FnScope NT ["_law_bag_here", "_law_many"] (defScope s_take) := ⟨rfl, rfl, rfl, by decide +kernel, rfl, by decide +kernel, by decide +kernel⟩
def TakePre (ds : List PyData) : Prop := ∃ m, ds = [.int m] ∧ 0 < m ∧ m < 1073741824
def TakeR (ds : List PyData) (d : PyData) : Prop := ∃ m r, ds = [.int m] ∧ d = .int r ∧ 0 ≤ r ∧ r < m
abbrev spTake (K : PySem.W.Frag) : Sp := spG K 0 TakePre TakeR
theorem spG_len {K : PySem.W.Frag} {n k : Nat} {pre : List PyData → Prop} {R : List PyData → PyData → Prop} (hl : ∀ ds, pre ds → ds.length = k) {vs : List V} {H : Hp} {Q : VK} {E : XK} (h : spG K n pre R vs H Q E) : vs.length = k + 1 := by
  obtain ⟨b, a, k', ws, ds, rfl, _, _, _, hd, hp, _⟩ := h
  rw [List.length_cons, dps_len hd, hl ds hp]
section
variable {K : PySem.W.Frag} {b : List Addr} {σ : L2.St} {H H' : Hp} {ta tb te : TE}
theorem gnext {D : Ends} {σ : L2.St} {H : Hp} (h : D.nx σ H) : tNext D σ H := h
theorem g_set {D : Ends} {i : Nat} {ts : TS} {d : PyData} (h : ED K b te σ H d) (k : ∀ v H', Ex H H' → Dq K b H' v d → ts D (σ.set i (some v)) H') : tSeq (tAsg te (gName i)) ts D σ H := h H (Ex.refl H) _ fun v H' x hv => k v H' x hv
/-- an item of the bag -/
theorem ed_bag {a : Addr} {xs : List V} {i j : Nat} {k : Int} (hs : σ[j]? = some (some (.ref a))) (h : H a = some (.lst xs)) (hi : xs[i]? = some (.int k)) : ED K b (tOp (rIxL K) (tVar j) (tC (.int (i : Nat)))) σ H (.int k) := fun H1 x1 Q q =>
  ⟨.ref a, hs, a, xs, (i : Nat), .int k, rfl, rfl, .inl (.inl (x1 _ _ h)), atI_nat hi, q _ H1 (Ex.refl H1) (.int _)⟩
theorem ed_mul {i j : Int} (ha : ED K b ta σ H (.int i)) (hb : ED K b tb σ H (.int j)) (hc : CMul i j) : ED K b (tOp (rI CMul fun i j => .int (i * j)) ta tb) σ H (.int (i * j)) := ed_I ha hb hc fun _ => .int _
theorem ed_mod {i j : Int} (ha : ED K b ta σ H (.int i)) (hb : ED K b tb σ H (.int j)) (hc : 0 < j) : ED K b (tOp (rI (fun _ j => 0 < j) fun i j => .int (i % j)) ta tb) σ H (.int (i % j)) := ed_I ha hb hc fun _ => .int _
theorem ed_fdiv {i j : Int} (ha : ED K b ta σ H (.int i)) (hb : ED K b tb σ H (.int j)) (hc : CDiv i j) : ED K b (tOp (rI CDiv fun i j => .int (i / j)) ta tb) σ H (.int (i / j)) := ed_I ha hb hc fun _ => .int _
theorem ed_powW {i j : Int} (ha : ED K b ta σ H (.int i)) (hb : ED K b tb σ H (.int j)) (hc : CPowW i j) : ED K b (tOp (rI CPowW fun i j => .int (i ^ j.toNat)) ta tb) σ H (.int (i ^ j.toNat)) := ed_I ha hb hc fun _ => .int _
end
section
variable {P : Program} {w : World} {K : PySem.W.Frag} {mg : Str → Option Value} {base : Heap} {f g g2 : Addr} {fd gd gd2 : FuncData}
theorem ok_take (D : Def K mg "_law_take" s_take ["_law_bag_here", "_law_many"] f fd) : FnOk P w K mg base CX0 1 f fd ["_law_bag_here", "_law_many"] (spTake K) := by
  refine D.F.ok sc_take (fun vs H Q E h => spG_len (fun ds ⟨m, e, _⟩ => by rw [e]; rfl) h) (fun cdv A outer s H vs Q E hr h => ?_)
  obtain ⟨b, a, k, ws, ds, rfl, hab, kn, ⟨gg, x, hb, g0, x0, x1⟩, hd, ⟨m, rfl, m0, m1⟩, q⟩ := h
  obtain ⟨v, d, rfl, ed, hv⟩ := one_of hd rfl
  cases ed
  have ev := dq_int hv
  subst ev
  refine ⟨_, pss_cons (ps_if (pt_cmpR op_gt (pe_ix ix_list (pv 0) pe_int (fun _ _ => rfl)) pe_int (nomark _))
      (pss_cons (ps_set (i := 2) sc_take.nd rfl (Or.inl rfl) (pe_op op_mod (pe_ix ix_list (pv 0) pe_int (fun _ _ => rfl)) (pv 1)))
      (pss_cons (ps_asg (pe_op op_fdiv (pe_ix ix_list (pv 0) pe_int (fun _ _ => rfl)) (pv 1)) (pg_sub (pv 0) pe_int set_list))
      (pss_one (ps_ret (pv 2))))) pss_nil)
    (pss_cons (ps_asg (pe_op op_mod (pe_op op_add (pe_op op_mul (pe_ix ix_list (pv 0) pe_int (fun _ _ => rfl)) pe_int) pe_int) pe_int) (pg_sub (pv 0) pe_int set_list))
    (pss_one (ps_ret (pe_op op_mod (pe_op op_mod (pe_op op_mul (pe_op op_fdiv (pe_op op_mod (pe_op op_powW (pe_ix ix_list (pv 0) pe_int (fun _ _ => rfl)) pe_int) pe_int) pe_int) pe_int) pe_int) (pv 1))))), ?_⟩
  refine et_t (K := K) (b := b) (ed_gt (ed_bag (i := 0) rfl hb rfl) ed_int) H (Ex.refl H) _ fun H1 y1 => ?_
  by_cases hg : (0 : Int) < gg
  · rw [decide_eq_true hg, if_pos rfl]
    refine (ed_mod (K := K) (b := b) (ed_bag (i := 0) rfl (y1 _ _ hb) rfl) (ed_var (d := .int m) rfl (.int m)) m0) H1 (Ex.refl H1) _ fun v2 H2 y2 hv2 => ?_
    have e2 := dq_int hv2
    subst e2
    refine (ed_fdiv (K := K) (b := b) (ed_bag (i := 0) rfl (y2 _ _ (y1 _ _ hb)) rfl) (ed_var (d := .int m) rfl (.int m)) ⟨m0, m1⟩) H2 (Ex.refl H2) _ fun v3 H3 y3 hv3 => ?_
    have e3 := dq_int hv3
    subst e3
    have hb3 := y3 _ _ (y2 _ _ (y1 _ _ hb))
    refine ⟨.ref a, rfl, a, _, 0, 0, rfl, rfl, hb3, rfl, _, rfl, ?_⟩
    refine q _ (.int (gg % m)) _ (fun c o n h => ?_) ⟨gg / m, x, upd_same, Int.ediv_nonneg g0 (by omega), x0, x1⟩ (.int _) ⟨m, gg % m, rfl, rfl, Int.emod_nonneg _ (by omega), Int.emod_lt_of_pos _ m0⟩
    rw [upd_ne n]
    exact y3 _ _ (y2 _ _ (y1 _ _ h))
  · rw [decide_eq_false hg, if_neg Bool.false_ne_true]
    refine gnext ?_
    have hb1 := y1 _ _ hb
    refine (ed_mod (K := K) (b := b) (ed_add (ed_mul (ed_bag (i := 1) rfl hb1 rfl) ed_int (.inr ⟨by decide, by decide⟩)) ed_int) ed_int (by decide)) H1 (Ex.refl H1) _ fun v2 H2 y2 hv2 => ?_
    have e2 := dq_int hv2
    subst e2
    have z0 := Int.emod_nonneg (x * 48271 + 7919) (show (2147483647 : Int) ≠ 0 by decide)
    have z1 := Int.emod_lt_of_pos (x * 48271 + 7919) (show (0 : Int) < 2147483647 by decide)
    generalize (x * 48271 + 7919) % 2147483647 = z at z0 z1
    have hb2 := y2 _ _ hb1
    refine ⟨.ref a, rfl, a, _, 1, 1, rfl, rfl, hb2, rfl, ?_⟩
    have hb4 : (upd H2 a (.lst ([V.int gg, .int x].set 1 (.int z)))) a = some (.lst [.int gg, .int z]) := upd_same
    have hx4 : ExB a H (upd H2 a (.lst ([V.int gg, .int x].set 1 (.int z)))) := fun c o n h => by
      rw [upd_ne n]
      exact y2 _ _ (y1 _ _ h)
    generalize upd H2 a (.lst ([V.int gg, .int x].set 1 (.int z))) = H4 at hb4 hx4
    have hpw : CPowW z 3 := ⟨by decide, by decide, Nat.lt_of_lt_of_le (show z.natAbs < 2 ^ 31 by omega) (by decide)⟩
    have p0 := Int.emod_nonneg (z ^ (3 : Int).toNat) (show (2147483587 : Int) ≠ 0 by decide)
    have p1 := Int.emod_lt_of_pos (z ^ (3 : Int).toNat) (show (0 : Int) < 2147483587 by decide)
    refine (ed_mod (K := K) (b := b) (ed_mod (ed_mul (ed_fdiv (ed_mod (ed_powW (ed_bag (i := 1) rfl hb4 rfl) ed_int hpw) ed_int (by decide)) ed_int ⟨by decide, by decide⟩) ed_int (.inr ⟨by decide, by decide⟩)) ed_int (by decide)) (ed_var (d := .int m) rfl (.int m)) m0) H4 (Ex.refl H4) _ fun v8 H8 y8 hv8 => ?_
    exact q _ _ _ (hx4.trans (exb y8)) ⟨gg, z, y8 _ _ hb4, g0, z0, by omega⟩ hv8 ⟨m, _, rfl, rfl, Int.emod_nonneg _ (by omega), Int.emod_lt_of_pos _ m0⟩
end
end Wr

set_option Elab.async false
set_option linter.all false
set_option maxRecDepth 100000
set_option maxHeartbeats 4000000
namespace Wr
open PySem PySem.Spec PyProof.Rows L2 Evl
abbrev NN2 : List Str := ["_law_bag_here", "_law_many", "_law_letters", "_law_first", "_law_long", "_law_k"]
def IntB (m : Int) (d : PyData) : Prop := ∃ r, d = .int r ∧ 0 ≤ r ∧ r < m
section
variable {K : PySem.W.Frag} {b : List Addr} {a : Addr} {n m k : Nat} {σ : L2.St} {H H' : Hp} {ta tb te : TE} {t : TA} {tt : TT} {ts t1 t2 : TS} {P P' : PyData → Prop} {d : PyData}
theorem eg_takeE {i : Nat} {u : Int} {P1 : PyData → Prop} {E : XK} (ha : a ∈ b) (hb : σ[i]? = some (some (.ref a))) (h : EG K b a n m te σ H P1) (hp : ∀ d, P1 d → ∃ j, d = .int j ∧ 0 < j ∧ j < 1073741824 ∧ j ≤ u) : EG K b a n m (tCall (spTake K) [] E (tCons (tVar i) (tCons te tNil))) σ H (IntB u) :=
  eg_call ha hb (ega_cons ha h ega_nil) (fun ds ⟨d, r, e, p, er⟩ => by
    obtain ⟨j, rfl, h1, h2, _⟩ := hp d p
    subst er
    exact ⟨j, e, h1, h2⟩) fun ds d ⟨d', r, e, p, er⟩ ⟨j, x, e1, e2, h1, h2⟩ => by
    obtain ⟨j', rfl, _, _, h3⟩ := hp d' p
    subst er
    rw [e] at e1
    have ej : j' = j := by injection e1 with e1 _; injection e1
    exact ⟨x, e2, h1, by omega⟩
theorem eg_take {i : Nat} {u : Int} {E : XK} (ha : a ∈ b) (hb : σ[i]? = some (some (.ref a))) (h0 : 0 < u) (h1 : u < 1073741824) : EG K b a n n (tCall (spTake K) [] E (tCons (tVar i) (tCons (tC (.int u)) tNil))) σ H (IntB u) :=
  eg_takeE (P1 := fun d => d = .int u) ha hb (eg_pure (fun _ _ _ => ed_int) rfl) fun d e => ⟨u, e, h0, h1, Int.le_refl u⟩
theorem eg_ixL {P1 P2 : PyData → Prop} (ha : a ∈ b) (h1 : EG K b a n k ta σ H P1) (h2 : EG K b a k m tb σ H P2) (hi : ∀ d e, P1 d → P2 e → ∃ ds i z, d = .list ds ∧ e = .int i ∧ atI ds i = some z ∧ P z) : EG K b a n m (tOp (rIxL K) ta tb) σ H P :=
  eg_op ha h1 h2 fun d e H1 x y Q p1 p2 _ _ hx hy q => by
    obtain ⟨ds, i, z, rfl, rfl, hz, p⟩ := hi d e p1 p2
    cases hx with
    | lst g1 g2 =>
      obtain ⟨v, q1, q2⟩ := dps_atI g2 hz
      exact ⟨_, _, i, v, rfl, dq_int hy, ex_l hid_le g1, q1, q v z H1 (Ex.refl H1) q2 p⟩
theorem eg_I0 {g : Int → Int → Int} {P1 P2 : PyData → Prop} (ha : a ∈ b) (h1 : EG K b a n k ta σ H P1) (h2 : EG K b a k m tb σ H P2) (hi : ∀ d e, P1 d → P2 e → ∃ i j, d = .int i ∧ e = .int j ∧ P (.int (g i j))) : EG K b a n m (tOp (rI0 fun i j => .int (g i j)) ta tb) σ H P :=
  eg_op ha h1 h2 fun d e H1 x y Q p1 p2 _ _ hx hy q => by
    obtain ⟨i, j, rfl, rfl, p⟩ := hi d e p1 p2
    exact ⟨i, j, dq_int hx, dq_int hy, q _ _ H1 (Ex.refl H1) (.int _) p⟩
theorem intB_at {ds : List PyData} {u : Int} {d : PyData} (h : IntB u d) (hu : u ≤ ds.length) : ∃ i z, d = .int i ∧ atI ds i = some z ∧ z ∈ ds := by
  obtain ⟨r, rfl, h0, h1⟩ := h
  have hr : r.toNat < ds.length := by omega
  have e : ((r.toNat : Nat) : Int) = r := Int.toNat_of_nonneg h0
  have q := atI_nat (xs := ds) (j := r.toNat) (List.getElem?_eq_getElem hr)
  rw [e] at q
  exact ⟨r, ds[r.toNat], rfl, q, List.getElem_mem hr⟩
end
section
variable {P : Program} {w : World} {K : PySem.W.Frag} {mg : Str → Option Value} {base : Heap} {f g g2 : Addr} {fd gd gd2 : FuncData}
end
end Wr

set_option Elab.async false
set_option linter.all false
set_option maxRecDepth 100000
set_option maxHeartbeats 4000000
namespace Wr
open PySem PySem.Spec PyProof.Rows L2 Evl
/-! ### how great data are -/
def okL (L : Nat) : Nat → PyData → Bool
  | _, .none => true
  | _, .bool _ => true
  | _, .int i => decide (i.natAbs < 10 ^ 40 + L)
  | _, .str x => PyData.strOk x && decide (x.length ≤ 1000)
  | n + 1, .list ds => decide (ds.length ≤ L) && ds.all (okL L n)
  | n + 1, .tuple ds => decide (ds.length ≤ L) && ds.all (okL L n)
  | _, _ => false
theorem int_room {L i : Nat} (hL : L ≤ 1000) (h : i < 10 ^ 40 + L) : i < 10 ^ 45 := by
  have : (10 ^ 40 + 1000 : Nat) < 10 ^ 45 := by decide
  omega
theorem okL_ok {L : Nat} (hL : L ≤ 1000) : ∀ (n : Nat) (d : PyData), okL L n d = true → okD n d = true
  | 0, .none, _ => rfl
  | 0, .bool _, _ => rfl
  | 0, .int i, h => decide_eq_true (int_room hL (of_decide_eq_true h))
  | 0, .str x, h => h
  | 0, .list ds, h => by cases h
  | 0, .tuple ds, h => by cases h
  | 0, .dict _, h => by cases h
  | _ + 1, .none, _ => rfl
  | _ + 1, .bool _, _ => rfl
  | _ + 1, .int i, h => decide_eq_true (int_room hL (of_decide_eq_true h))
  | _ + 1, .str x, h => h
  | _ + 1, .dict _, h => by cases h
  | n + 1, .list ds, h => by
    have h' : (decide (ds.length ≤ L) && ds.all (okL L n)) = true := h
    show (decide (ds.length ≤ 1000) && ds.all (okD n)) = true
    rw [Bool.and_eq_true] at h' ⊢
    exact ⟨decide_eq_true (Nat.le_trans (of_decide_eq_true h'.1) hL), List.all_eq_true.mpr fun d hd => okL_ok hL n d (List.all_eq_true.mp h'.2 d hd)⟩
  | n + 1, .tuple ds, h => by
    have h' : (decide (ds.length ≤ L) && ds.all (okL L n)) = true := h
    show (decide (ds.length ≤ 1000) && ds.all (okD n)) = true
    rw [Bool.and_eq_true] at h' ⊢
    exact ⟨decide_eq_true (Nat.le_trans (of_decide_eq_true h'.1) hL), List.all_eq_true.mpr fun d hd => okL_ok hL n d (List.all_eq_true.mp h'.2 d hd)⟩
theorem okL_up {L M : Nat} (hL : L ≤ M) : ∀ (n m : Nat) (d : PyData), n ≤ m → okL L n d = true → okL M m d = true
  | _, 0, .none, _, _ => rfl
  | _, _ + 1, .none, _, _ => rfl
  | _, 0, .bool _, _, _ => rfl
  | _, _ + 1, .bool _, _, _ => rfl
  | n, m, .int i, _, h => by
    have h' : decide (i.natAbs < 10 ^ 40 + L) = true := by cases n <;> exact h
    have h2 : decide (i.natAbs < 10 ^ 40 + M) = true := decide_eq_true (by have := of_decide_eq_true h'; omega)
    cases m <;> exact h2
  | n, m, .str x, _, h => by cases n <;> cases m <;> exact h
  | 0, _, .list ds, _, h => by cases h
  | 0, _, .tuple ds, _, h => by cases h
  | 0, _, .dict _, _, h => by cases h
  | _ + 1, _, .dict _, _, h => by cases h
  | n + 1, 0, .list ds, hm, h => by omega
  | n + 1, 0, .tuple ds, hm, h => by omega
  | n + 1, m + 1, .list ds, hm, h => by
    have h' : (decide (ds.length ≤ L) && ds.all (okL L n)) = true := h
    show (decide (ds.length ≤ M) && ds.all (okL M m)) = true
    rw [Bool.and_eq_true] at h' ⊢
    exact ⟨decide_eq_true (Nat.le_trans (of_decide_eq_true h'.1) hL), List.all_eq_true.mpr fun d hd => okL_up hL n m d (by omega) (List.all_eq_true.mp h'.2 d hd)⟩
  | n + 1, m + 1, .tuple ds, hm, h => by
    have h' : (decide (ds.length ≤ L) && ds.all (okL L n)) = true := h
    show (decide (ds.length ≤ M) && ds.all (okL M m)) = true
    rw [Bool.and_eq_true] at h' ⊢
    exact ⟨decide_eq_true (Nat.le_trans (of_decide_eq_true h'.1) hL), List.all_eq_true.mpr fun d hd => okL_up hL n m d (by omega) (List.all_eq_true.mp h'.2 d hd)⟩
theorem okL_tup {L n : Nat} {ds : List PyData} (hl : ds.length ≤ L) (h : ∀ d ∈ ds, okL L n d = true) : okL L (n + 1) (.tuple ds) = true := by
  show (decide (ds.length ≤ L) && ds.all (okL L n)) = true
  rw [decide_eq_true hl, Bool.true_and]
  exact List.all_eq_true.mpr h
theorem okL_items {L n : Nat} {ds : List PyData} (h : okL L (n + 1) (.tuple ds) = true) : ds.length ≤ L ∧ ∀ d ∈ ds, okL L n d = true := by
  have h' : (decide (ds.length ≤ L) && ds.all (okL L n)) = true := h
  rw [Bool.and_eq_true] at h'
  exact ⟨of_decide_eq_true h'.1, List.all_eq_true.mp h'.2⟩
mutual
def szD : PyData → Nat
  | .none => 4
  | .bool _ => 5
  | .int _ => 1921
  | .str x => 10 * x.length + 2
  | .list xs => szAll xs + 3
  | .tuple xs => szAll xs + 3
  | .dict _ => 0
def szAll : List PyData → Nat
  | [] => 0
  | x :: xs => szD x + 2 + szAll xs
end
theorem szAll_app (xs ys : List PyData) : szAll (xs ++ ys) = szAll xs + szAll ys := by
  induction xs with
  | nil => simp only [List.nil_append, szAll, Nat.zero_add]
  | cons x r ih =>
    simp only [List.cons_append, szAll, ih]
    omega
theorem szAll_le {c : Nat} : ∀ {xs : List PyData}, (∀ x ∈ xs, szD x ≤ c) → szAll xs ≤ xs.length * (c + 2)
  | [], _ => by simp only [szAll]; omega
  | x :: xs, h => by
    have h1 := h x List.mem_cons_self
    have h2 := szAll_le fun y hy => h y (List.mem_cons_of_mem _ hy)
    simp only [szAll, List.length_cons, Nat.add_mul]
    omega
theorem szD_str (x : Str) : szD (.str x) = 10 * x.length + 2 := by simp only [szD]
theorem szD_int (i : Int) : szD (.int i) = 1921 := by simp only [szD]
theorem szD_tup (xs : List PyData) : szD (.tuple xs) = szAll xs + 3 := by simp only [szD]
theorem szD_lst (xs : List PyData) : szD (.list xs) = szAll xs + 3 := by simp only [szD]
theorem name_len {x : Str} (h : nameS x = true) : x.length ≤ 8 := by
  unfold nameS at h
  rw [Bool.and_eq_true] at h
  exact of_decide_eq_true h.1
theorem okL_str {L n : Nat} {x : Str} (h : PyData.strOk x = true) (hl : x.length ≤ 1000) : okL L n (.str x) = true := by
  have e : (PyData.strOk x && decide (x.length ≤ 1000)) = true := by
    rw [h, decide_eq_true hl]
    rfl
  cases n <;> exact e
theorem okL_int {L n : Nat} {i : Int} (h : i.natAbs < 10 ^ 40) : okL L n (.int i) = true := by
  have h2 : decide (i.natAbs < 10 ^ 40 + L) = true := decide_eq_true (by omega)
  cases n <;> exact h2
end Wr

set_option Elab.async false
set_option linter.all false
set_option maxRecDepth 100000
set_option maxHeartbeats 4000000
namespace Wr
open PySem PySem.Spec PyProof.Rows L2 Evl
/-! ### tuples made, their object known -/
abbrev tupO (its : Array Value) : Obj := { cls := .type "tuple", data := .seq its }
theorem frz_new {P : Program} {w : World} {H : Hp} {h : Heap} {xs : List V} {its : List Value} (hz : xs.length ≤ sizeLine) (r : Vals xs its) : ObjOk P w (upd H h.objs.size (.frz (tupO its.toArray) (.tup xs))) (h.push (tupO its.toArray)) h.objs.size (.frz (tupO its.toArray) (.tup xs)) :=
  ⟨Heap.get?_push_size _ rfl, hz, its, r, ⟨_, Heap.get?_push_size _ rfl, rfl, _, rfl⟩⟩
def rTupOf (K : PySem.W.Frag) : List V → Hp → VK → Prop := fun xs H Q => ∃ p ys, xs = [.ref p] ∧ SqL K H p ys ∧ ∀ l o, H l = none → o.dict = none → Q (.ref l) (upd H l (.frz o (.tup ys)))
theorem call_tupF {X : Cx} : CallR X (.type "tuple") (rTupOf X.K) := by
  intro pins s σ H xs us Q I r ⟨p, ys, e, hq, q⟩
  subst e
  obtain ⟨u, rfl, rx⟩ := vals1 r
  cases rx
  obtain ⟨its, r', pl, hz⟩ := I.list hq
  have hlen := r'.length
  refine call_tuple_list pl.isList (fun h' kp => ?_) (by simp only [List.size_toArray] <;> omega)
  have I1 : Inv X pins σ H { s with heap := h' } := I.kept (t' := s.toks) kp
  exact ⟨.ref h'.objs.size, _, I1.laid (t' := s.toks) (fun b o e => Heap.get?_push_of_some _ e) (Nat.le_refl _) (frz_new hz r'), rfl, q _ _ (I1.hok.fresh (Nat.le_refl _)) rfl⟩
def rSlF (K : PySem.W.Frag) : V → Option Int → Option Int → Hp → VK → Prop := fun x lo hi H Q => ∃ a xs, x = .ref a ∧ SqT K H a xs ∧ (xs = cutV xs lo hi → Q (.ref a) H) ∧ ∀ p o, H p = none → o.dict = none → Q (.ref p) (upd H p (.frz o (.tup (cutV xs lo hi))))
theorem sl_tupF {X : Cx} : SlR X (rSlF X.K) := by
  intro pins s σ H x v vl vu lo hi sl Q I rx hs pl pu ⟨a, xs, e, hx, q1, q2⟩
  subst e
  cases rx
  obtain ⟨its, r, ht, hz⟩ := I.tuple hx
  have hlen : its.toArray.size = xs.length := by rw [List.size_toArray]; exact r.length.symm
  refine ⟨"tuple", _, PyProof.Rows.slot_tuple_getitem.lookup, ht.typeIs, ?_⟩
  by_cases hw : HT.sIx xs.length 0 lo = 0 ∧ HT.sIx xs.length xs.length hi = xs.length
  · refine getItem_tuple_whole ht hs pl pu (by rw [hlen]; exact hw) ⟨.ref a, H, I, rfl, q1 ?_⟩
    unfold cutV
    rw [hw.1, hw.2]
    simp
  · refine HT.getItem_tuple_cut ht hs pl pu (by rw [hlen]; exact hw) ?_ (by rw [hlen]; exact hz)
    rw [hlen]
    exact ⟨.ref s.heap.objs.size, _, I.laid (t' := s.toks) (fun b ob q => Heap.get?_push_of_some _ q) (Nat.le_refl _) (frz_new (Nat.le_trans (cutV_length xs lo hi) hz) ((r.drop (HT.sIx xs.length 0 lo)).take (HT.sIx xs.length xs.length hi - HT.sIx xs.length 0 lo))), rfl, q2 _ _ (I.hok.fresh (Nat.le_refl _)) rfl⟩
def rCatF (K : PySem.W.Frag) : R2 := fun x y H Q => ∃ a b xs ys, x = .ref a ∧ y = .ref b ∧ SqT K H a xs ∧ SqT K H b ys ∧ xs.length + ys.length ≤ sizeLine ∧ (xs = [] → Q (.ref b) H) ∧ (ys = [] → Q (.ref a) H) ∧ ∀ p o, H p = none → o.dict = none → Q (.ref p) (upd H p (.frz o (.tup (xs ++ ys))))
theorem op_catF {X : Cx} : OpR X (binaryOp .Add) (rCatF X.K) := by
  intro pins s σ H x y v u Q I rx ry ⟨a, b, xs, ys, e1, e2, ha, hb, hz, q0, q1, q2⟩
  subst e1 e2
  cases rx
  cases ry
  obtain ⟨its, r1, p1, _⟩ := I.tuple ha
  obtain ⟨its2, r2, p2, _⟩ := I.tuple hb
  by_cases hx : xs = []
  · subst hx
    cases r1
    exact cat_tup0 p1 p2 ⟨.ref b, H, I, rfl, q0 rfl⟩
  · refine HT.cat_tup p1 p2 (fun z => hx (r1.nil_iff.mp z)) (fun z => ⟨.ref a, H, I, rfl, q1 (r2.nil_iff.mp z)⟩) (fun z => ?_) (by rw [← r1.length, ← r2.length]; exact hz)
    exact ⟨.ref s.heap.objs.size, _, I.laid (t' := s.toks) (fun b ob q => Heap.get?_push_of_some _ q) (Nat.le_refl _) (frz_new (by rw [List.length_append]; exact hz) (r1.append r2)), rfl, q2 _ _ (I.hok.fresh (Nat.le_refl _)) rfl⟩
/-! ### on data -/
def cutD (ds : List PyData) (lo hi : Option Int) : List PyData := (ds.drop (HT.sIx ds.length 0 lo)).take (HT.sIx ds.length ds.length hi - HT.sIx ds.length 0 lo)
theorem cut_dps {K : PySem.W.Frag} {H : Hp} {vs : List V} {ds : List PyData} (h : DdAll K H vs ds) (lo hi : Option Int) : DdAll K H (cutV vs lo hi) (cutD ds lo hi) := by
  unfold cutV cutD
  rw [dps_len h]
  exact dps_take _ (dps_drop _ h)
section
variable {K : PySem.W.Frag} {b : List Addr} {a : Addr} {n m k : Nat} {σ : L2.St} {H H' : Hp} {ta tb te : TE} {t : TA} {P : PyData → Prop} {d : PyData} {ds es : List PyData}
theorem dq_newT {p : Addr} {o : Obj} {vs : List V} (kn : Kn b H) (hp : H p = none) (ho : o.dict = none) (hd : DqAll K b H vs ds) : Dq K b (upd H p (.frz o (.tup vs))) (.ref p) (.tuple ds) := by
  have e := hid_new (o := HO.frz o (.tup vs)) (H := H) (kn.new hp)
  exact .tup (.inl (.inr ⟨_, e⟩)) (.inl ⟨_, _, e, ho⟩) (DqAll.up hd (Ex.new hp))
def EO (to : TO) (σ : L2.St) (H : Hp) (o : Option Int) : Prop := ∀ H1, Ex H H1 → ∀ Q : Option Int → Hp → Prop, (∀ H2, Ex H1 H2 → Q o H2) → to σ H1 Q
theorem eo_none : EO tNoPart σ H none := fun H1 x Q q => q H1 (Ex.refl H1)
theorem eo_some {i : Int} (h : ED K b te σ H (.int i)) : EO (tPart te) σ H (some i) := fun H1 x Q q => h H1 x _ fun v H2 x2 hv => ⟨i, dq_int hv, q H2 x2⟩
theorem ed_slT {tl th : TO} {lo hi : Option Int} (kn : Kn b H) (ha : ED K b ta σ H (.tuple ds)) (h1 : EO tl σ H lo) (h2 : EO th σ H hi) : ED K b (tSl (rSlF K) ta tl th) σ H (.tuple (cutD ds lo hi)) := fun H1 x1 Q q =>
  ha H1 x1 _ fun x H2 x2 hx => h1 H2 (x1.trans x2) _ fun H3 x3 => h2 H3 ((x1.trans x2).trans x3) _ fun H4 x4 => by
    have hx4 := (hx.up x3).up x4
    have hx5 := hx4
    cases hx5 with
    | tup g1 gn g2 =>
      have kn4 := kn.up (((x1.trans x2).trans x3).trans x4)
      refine ⟨_, _, rfl, ex_t hid_le g1, fun e => ?_, fun p o hp ho => ?_⟩
      · have e2 : DdAll K (hid b H4) _ (cutD ds lo hi) := cut_dps g2 lo hi
        rw [← e] at e2
        exact q _ H4 ((x2.trans x3).trans x4) (.tup g1 gn e2)
      · exact q _ _ (((x2.trans x3).trans x4).trans (Ex.new hp)) (dq_newT kn4 hp ho (cut_dps g2 lo hi))
/-- t + u, as a rule on data -/
theorem cat_data {x y : V} {Q : VK} (kn : Kn b H) (hx : Dq K b H x (.tuple ds)) (hy : Dq K b H y (.tuple es)) (hl : ds.length + es.length ≤ sizeLine) (q : ∀ v H2, Ex H H2 → Dq K b H2 v (.tuple (ds ++ es)) → Q v H2) : rCatF K x y H Q := by
  have hx' := hx
  have hy' := hy
  cases hx' with
  | tup g1 gn g2 =>
    cases hy' with
    | tup f1 fn f2 =>
      refine ⟨_, _, _, _, rfl, rfl, ex_t hid_le g1, ex_t hid_le f1, by rw [dps_len g2, dps_len f2]; exact hl, fun e => ?_, fun e => ?_, fun p o hp ho => ?_⟩
      · subst e
        have : ds = [] := by cases g2; rfl
        subst this
        exact q _ H (Ex.refl H) hy
      · subst e
        have : es = [] := by cases f2; rfl
        subst this
        rw [List.append_nil] at q
        exact q _ H (Ex.refl H) hx
      · exact q _ _ (Ex.new hp) (dq_newT kn hp ho (dps_app g2 f2))
theorem ed_catT (kn : Kn b H) (ha : ED K b ta σ H (.tuple ds)) (hb : ED K b tb σ H (.tuple es)) (hl : ds.length + es.length ≤ sizeLine) : ED K b (tOp (rCatF K) ta tb) σ H (.tuple (ds ++ es)) :=
  ed_op ha hb fun H1 x y Q x1 hx hy q => cat_data (kn.up x1) hx hy hl fun v H2 x2 hv => q v H2 x2 hv
theorem eg_catT {P1 P2 : PyData → Prop} (ha : a ∈ b) (h1 : EG K b a n k ta σ H P1) (h2 : EG K b a k m tb σ H P2) (hi : ∀ d e, P1 d → P2 e → ∃ ds es, d = .tuple ds ∧ e = .tuple es ∧ ds.length + es.length ≤ sizeLine ∧ P (.tuple (ds ++ es))) : EG K b a n m (tOp (rCatF K) ta tb) σ H P :=
  eg_op ha h1 h2 fun d e H1 x y Q p1 p2 _ kn1 hx hy q => by
    obtain ⟨ds, es, rfl, rfl, hl, p⟩ := hi d e p1 p2
    exact cat_data kn1 hx hy hl fun v H2 x2 hv => q v _ H2 x2 hv p
theorem eg_lst {R : List PyData → Prop} (h : EGA K b a n m t σ H R) (hl : ∀ ds, R ds → ds.length ≤ sizeLine ∧ P (.list ds)) : EG K b a n m (tLst t) σ H P := fun H1 x1 kn bg Q q =>
  h H1 x1 kn bg _ fun vs ds H2 x2 b2 hvs r => ⟨by rw [dps_len hvs]; exact (hl ds r).1, fun p hp => q _ (.list ds) _ (x2.trans (exb (Ex.new hp))) (b2.ex (Ex.new hp)) (.lst (.inl (.inl (hid_new ((x2.kn kn b2).new hp)))) (hvs.up (Ex.new hp))) (hl ds r).2⟩
/-- tuple(list) -/
theorem eg_tupOf {P1 : PyData → Prop} (h : EG K b a n m ta σ H P1) (hi : ∀ d, P1 d → ∃ ds, d = .list ds ∧ P (.tuple ds)) : EG K b a n m (tCB (rTupOf K) (tCons ta tNil)) σ H P := fun H1 x1 kn bg Q q =>
  h H1 x1 kn bg _ fun v d H2 x2 b2 hv p1 => by
    obtain ⟨ds, rfl, p⟩ := hi d p1
    cases hv with
    | lst g1 g2 =>
      refine ⟨_, _, rfl, ex_l hid_le g1, fun l o hl ho => ?_⟩
      exact q _ (.tuple ds) _ (x2.trans (exb (Ex.new hl))) (b2.ex (Ex.new hl)) (dq_newT (x2.kn kn b2) hl ho g2) p
/-- a list's beginning, how much is drawn -/
theorem eg_slL {P1 P2 : PyData → Prop} (ha : a ∈ b) (h1 : EG K b a n k ta σ H P1) (h2 : EG K b a k m te σ H P2) (hi : ∀ d e, P1 d → P2 e → ∃ ds i, d = .list ds ∧ e = .int i ∧ P (.list (cutD ds none (some i)))) : EG K b a n m (tSl (rSlL K) ta tNoPart (tPart te)) σ H P := fun H1 x1 kn bg Q q =>
  h1 H1 x1 kn bg _ fun x d H2 x2 b2 hx p1 => h2 H2 (x1.trans x2) (x2.kn kn b2) b2 _ fun y e H3 x3 b3 hy p2 => by
    obtain ⟨ds, i, rfl, rfl, p⟩ := hi d e p1 p2
    have hx3 := hx.upB ha x3
    cases hx3 with
    | lst g1 g2 =>
      have kn3 := x3.kn (x2.kn kn b2) b3
      exact ⟨i, dq_int hy, _, _, rfl, ex_l hid_le g1, fun r hr => q _ _ _ ((x2.trans x3).trans (exb (Ex.new hr))) (b3.ex (Ex.new hr)) (.lst (.inl (.inl (hid_new (kn3.new hr)))) (DqAll.up (cut_dps g2 none (some i)) (Ex.new hr))) p⟩
/-- int(truth) -/
def rInt1 : List V → Hp → VK → Prop := fun xs H Q => (∃ i, xs = [.int i] ∧ Q (.int i) H) ∨ ∃ k, xs = [.bl k] ∧ Q (.int (if k then 1 else 0)) H
theorem call_intB {X : Cx} : CallR X (.type "int") rInt1 := call_int1
theorem ed_intB {c : Bool} (ha : ED K b ta σ H (.bool c)) : ED K b (tCB rInt1 (tCons ta tNil)) σ H (.int (if c then 1 else 0)) := fun H1 x1 Q q =>
  ha H1 x1 _ fun v H2 x2 hv => .inr ⟨c, by rw [dq_bl hv], q _ H2 x2 (.int _)⟩
/-! ### hiding one more -/
theorem hide_ex {D : Addr} (hD : H D = none) : Ex (hid b H) (hid (D :: b) H) := fun c o h => by
  obtain ⟨h1, h2⟩ := hid_some h
  have : c ∉ D :: b := fun z => by
    rcases List.mem_cons.mp z with rfl | z
    · rw [hD] at h2; cases h2
    · exact h1 z
  rw [hid_ne this]
  exact h2
theorem Dq.hide {D : Addr} {v : V} (h : Dq K b H v d) (hD : H D = none) : Dq K (D :: b) H v d := dp_ex (hide_ex hD) d v h
theorem show_ex {D : Addr} : Ex (hid (D :: b) H) (hid b H) := fun c o h => by
  obtain ⟨h1, h2⟩ := hid_some h
  rw [hid_ne fun z => h1 (List.mem_cons_of_mem _ z)]
  exact h2
theorem put_ex {D : Addr} {o : HO} : Ex (hid (D :: b) H) (hid (D :: b) (upd H D o)) := fun c u h => by
  obtain ⟨h1, h2⟩ := hid_some h
  rw [hid_ne h1, upd_ne fun z => h1 (by rw [z]; exact List.mem_cons_self)]
  exact h2
/-- [.. for i in range(n)], each item drawn -/
theorem eg_lcR {i0 c N : Nat} {R : Nat → PyData → Prop} (ha : a ∈ b) (hcount : ∀ H1, ExB a H H1 → Kn b H1 → ED K b ta σ H1 (.int (N : Nat))) (hN : N ≤ 1000)
    (he : ∀ (D : Addr) (i f : Nat) (H0 H1 : Hp), i < N → ExB a H H0 → H0 D = none → ExB a H0 H1 → EG K (D :: b) a (f + c) f te ((wipe σ [i0]).set i0 (some (.int (i : Nat)))) H1 (R i)) :
    EG K b a (m + N * c) m (tLc (iRng1 (tCons ta tNil)) (gName i0) tYes te [i0]) σ H (fun d => ∃ ds, d = .list ds ∧ ds.length = N ∧ ∀ i x, ds[i]? = some x → R i x) := fun H1 x1 kn bg Q q =>
  hcount H1 x1 kn H1 (Ex.refl H1) _ fun v H2 x2 hv => by
    have e := dq_int hv
    subst e
    have hsl : sizeLine = 16777216 := sizeLine_eq
    have kn2 := kn.up x2
    have bg2 := bg.ex x2
    refine ⟨(N : Nat), rfl, by omega, by omega, fun D hD => ?_⟩
    rw [show ((N : Nat) : Int).toNat = N from rfl]
    have hDa : D ≠ a := fun z => bg2.there (z ▸ hD)
    refine lc_range (Pv := fun i H3 => ExB a H2 H3 ∧ Kn (D :: b) H3 ∧ Bag a (m + (N - i) * c) H3 ∧ ∃ acc ds, H3 D = some (.lst acc) ∧ DqAll K (D :: b) H3 acc ds ∧ ds.length = i ∧ ∀ j x, ds[j]? = some x → R j x) ?_ ?_ ?_
    · refine ⟨exb (Ex.new hD), fun z hz => ?_, ?_, [], [], upd_same, .nil, rfl, fun j x h => by simp at h⟩
      · rcases List.mem_cons.mp hz with rfl | hz
        · rw [upd_same]; intro q; cases q
        · rw [upd_ne (fun z' : z = D => kn2.new hD (by rw [← z']; exact hz))]
          exact kn2 z hz
      · rw [Nat.sub_zero]
        exact bg2.ex (Ex.new hD)
    · intro i H3 hi ⟨x3, k3, b3, acc, ds, hd3, hacc, hlen, hR⟩
      refine ⟨wipe_set1, ?_⟩
      refine et_yes (H := H3) _ (Ex.refl _) _ fun H4 x4 => ?_
      rw [if_pos rfl]
      have eN : N - i = (N - (i + 1)) + 1 := by omega
      have bb : Bag a ((m + (N - (i + 1)) * c) + c) H4 := (b3.ex x4).le (by rw [eN, Nat.add_mul]; omega)
      rw [show (0 + (i : Int)) = ((i : Nat) : Int) from Int.zero_add _]
      refine he D i (m + (N - (i + 1)) * c) H2 H4 hi (x1.trans (exb x2)) hD (x3.trans (exb x4)) H4 (ExB.refl a H4) (k3.up x4) bb _ fun y d H5 x5 b5 hy r => ?_
      have hd5 : H5 D = some (.lst acc) := x5 _ _ hDa (x4 _ _ hd3)
      have hm : a ∈ D :: b := List.mem_cons_of_mem _ ha
      refine ⟨acc, hd5, ?_, ?_, ?_, ?_, acc ++ [y], ds ++ [d], upd_same, ?_, ?_, ?_⟩
      · rw [dps_len hacc]; omega
      · intro z o hz h
        by_cases e : z = D
        · subst e; rw [hD] at h; cases h
        · rw [upd_ne e]
          exact x5 _ _ hz (x4 _ _ (x3 _ _ hz h))
      · intro z hz
        by_cases e : z = D
        · subst e; rw [upd_same]; intro q; cases q
        · rw [upd_ne e]
          exact x5.kn (k3.up x4) b5 z hz
      · obtain ⟨g, x, h1, r'⟩ := b5
        exact ⟨g, x, by rw [upd_ne (Ne.symm hDa)]; exact h1, r'⟩
      · exact dps_ex put_ex _ _ (dps_app (DqAll.upB hm (DqAll.up hacc x4) x5) (.cons hy .nil))
      · rw [List.length_append, hlen]; rfl
      · intro j x hj
        by_cases hjl : j < ds.length
        · rw [List.getElem?_append_left hjl] at hj
          exact hR j x hj
        · rw [List.getElem?_append_right (by omega)] at hj
          have : j - ds.length = 0 := by
            by_cases hz : j - ds.length = 0
            · exact hz
            · rw [List.getElem?_eq_none (by rw [List.length_singleton]; omega)] at hj
              cases hj
          rw [this] at hj
          have ex : d = x := Option.some.inj hj
          have ej : j = i := by omega
          rw [ej, ← ex]
          exact r
    · intro H3 ⟨x3, k3, b3, acc, ds, hd3, hacc, hlen, hR⟩
      rw [Nat.sub_self, Nat.zero_mul, Nat.add_zero] at b3
      refine q _ (.list ds) H3 ((exb x2).trans x3) b3 (.lst (.inl (.inl ?_)) (dps_ex show_ex _ _ hacc)) ⟨ds, rfl, hlen, hR⟩
      rw [hid_ne (kn2.new hD)]
      exact hd3
end
end Wr

set_option Elab.async false
set_option linter.all false
set_option maxRecDepth 100000
set_option maxHeartbeats 4000000
namespace Wr
open PySem PySem.Spec PyProof.Rows L2 Evl
def rAddT : R2 := fun x y H Q => ∃ i j, x = .str i ∧ y = .str j ∧ i.length + j.length ≤ sizeLine ∧ Q (.str (i ++ j)) H
theorem op_addT {X : Cx} : OpR X (binaryOp .Add) rAddT := op_add_str
structure Blt2 (mg : Str → Option Value) : Prop where
  abs : mg "abs" = none
  max : mg "max" = none
  min : mg "min" = none
  repr : mg "repr" = none
def rAbs : List V → Hp → VK → Prop := fun xs H Q => ∃ i, xs = [.int i] ∧ Q (.int (if i < 0 then -i else i)) H
theorem call_absB {X : Cx} : CallR X (.builtin "abs") rAbs := call_abs
def spLaw (K : PySem.W.Frag) : Sp := fun vs H Q _ => ∃ (a : Addr) (ns : List Int), vs = [.ref a] ∧ SqL K H a (ns.map V.int) ∧ ns.length ≤ 1000 ∧ ∀ H', Q (.bl true) H'
def rMax2 : List V → Hp → VK → Prop := fun xs H Q => ∃ i j, xs = [.int i, .int j] ∧ Q (.int (if j > i then j else i)) H
def rMin2 : List V → Hp → VK → Prop := fun xs H Q => ∃ i j, xs = [.int i, .int j] ∧ Q (.int (if j < i then j else i)) H
theorem cr_max2 {X : Cx} (hc : X.calm = true) : CallR X (.builtin "max") rMax2 := call_max2 hc
theorem cr_min2 {X : Cx} (hc : X.calm = true) : CallR X (.builtin "min") rMin2 := call_min2 hc
theorem hid_nil (H : Hp) : hid [] H = H := by
  funext a
  exact hid_ne (by intro z; cases z)
theorem ints_dps {K : PySem.W.Frag} {H : Hp} : ∀ ns : List Int, DdAll K H (ns.map V.int) (ns.map PyData.int)
  | [] => .nil
  | n :: ns => .cons (.int n) (ints_dps ns)
theorem ex_exb {p : Addr} {H H1 H2 : Hp} (hp : H p = none) (x : Ex H H1) (y : ExB p H1 H2) : Ex H H2 := fun c o h => y c o (fun z => by rw [z, hp] at h; cases h) (x c o h)
section
variable {K : PySem.W.Frag} {b : List Addr} {a : Addr} {n m k : Nat} {σ : L2.St} {H H' : Hp} {ta tb te : TE} {t : TA} {tt tu : TT} {ts t1 t2 : TS} {P P' : PyData → Prop} {d : PyData} {ds es : List PyData} {D : Ends}
theorem ed_addT {z y : Str} (ha : ED K b ta σ H (.str z)) (hb : ED K b tb σ H (.str y)) (hl : z.length + y.length ≤ sizeLine) : ED K b (tOp rAddT ta tb) σ H (.str (z ++ y)) :=
  ed_op ha hb fun H1 x y' Q _ hx hy q => ⟨z, y, dq_str hx, dq_str hy, hl, q _ H1 (Ex.refl H1) (.str _)⟩
theorem ed_ixS {z : Str} {i : Int} {c : Nat} (ha : ED K b ta σ H (.str z)) (hb : ED K b tb σ H (.int i)) (hl : z.length ≤ sizeLine) (hi : atI z.cps.toList i = some c) : ED K b (tOp rIxS ta tb) σ H (.str ⟨#[c]⟩) :=
  ed_op ha hb fun H1 x y Q _ hx hy q => ⟨z, i, c, dq_str hx, dq_int hy, hl, hi, q _ H1 (Ex.refl H1) (.str _)⟩
theorem g_setG {i : Nat} {P1 : PyData → Prop} (h : EG K b a n k te σ H P1) (kn : Kn b H) (bg : Bag a n H) (kk : ∀ v d H', ExB a H H' → Bag a k H' → Kn b H' → Dq K b H' v d → P1 d → ts D (σ.set i (some v)) H') : tSeq (tAsg te (gName i)) ts D σ H :=
  h H (ExB.refl a H) kn bg _ fun v d H' x bg' hv p => kk v d H' x bg' (x.kn kn bg') hv p
theorem ed_abs {i : Int} (ha : ED K b ta σ H (.int i)) : ED K b (tCB rAbs (tCons ta tNil)) σ H (.int (if i < 0 then -i else i)) := fun H1 x1 Q q =>
  ha H1 x1 _ fun v H2 x2 hv => ⟨i, by rw [dq_int hv], q _ H2 x2 (.int _)⟩
theorem g_lst {i : Nat} (kn : Kn b H) (hd : EA K b t σ H ds) (hl : ds.length ≤ sizeLine) (k : ∀ p vs H', H p = none → Ex H H' → H' p = some (.lst vs) → DqAll K b H' vs ds → ts D (σ.set i (some (.ref p))) H') : tSeq (tAsg (tLst t) (gName i)) ts D σ H :=
  hd H (Ex.refl H) _ fun vs H1 x1 hv => ⟨by rw [dps_len hv]; exact hl, fun p hp => k p vs _ (by
    cases q : H p with
    | none => rfl
    | some o => rw [x1 _ _ q] at hp; cases hp) (x1.trans (Ex.new hp)) upd_same (DqAll.up hv (Ex.new hp))⟩
theorem g_cat {i : Nat} {p : Addr} {vs : List V} (kn : Kn b H) (hs : σ[i]? = some (some (.ref p))) (hp : H p = some (.lst vs)) (hv : DqAll K b H vs ds) (he : EA K b t σ H es) (hl : ds.length + es.length ≤ sizeLine) (k : ∀ p' us H', H p' = none → Ex H H' → H' p' = some (.lst us) → DqAll K b H' us (ds ++ es) → ts D (σ.set i (some (.ref p'))) H') : tSeq (tAsg (tOp rCat (tVar i) (tLst t)) (gName i)) ts D σ H :=
  ⟨.ref p, hs, he H (Ex.refl H) _ fun ws H1 x1 hw => ⟨by rw [dps_len hw]; omega, fun p1 hp1 => ⟨p, p1, vs, ws, rfl, rfl, Ex.new hp1 _ _ (x1 _ _ hp), upd_same, by rw [dps_len hv, dps_len hw]; exact hl, fun p2 hp2 => by
    have x2 := (Ex.new (o := HO.lst ws) hp1).trans (Ex.new (o := HO.lst (vs ++ ws)) hp2)
    refine k p2 (vs ++ ws) _ ?_ (x1.trans x2) upd_same (DqAll.up (dps_app (DqAll.up hv x1) hw) x2)
    cases q : H p2 with
    | none => rfl
    | some o => rw [Ex.new hp1 _ _ (x1 _ _ q)] at hp2; cases hp2⟩⟩⟩
theorem g_app {j : Nat} {F : Addr} {vs : List V} (hσ : σ[j]? = some (some (.ref F))) (hF : H F = some (.lst vs)) (hl : vs.length < 10000000) (he : ED K b te σ H d) (kk : ∀ y H', Ex H H' → Dq K b H' y d → D.nx σ (upd H' F (.lst (vs ++ [y])))) : tDrop (tBM K "list" rAppend (tVar j) (tCons te tNil)) D σ H :=
  ⟨.ref F, hσ, .inl ⟨rfl, _, .inl (.inl hF)⟩, he H (Ex.refl H) _ fun y H' x hy => ⟨F, vs, y, rfl, rfl, x _ _ hF, by rw [sizeLine_eq]; omega, kk y H' x hy⟩⟩
theorem ed_max2 {i j : Int} (ha : ED K b ta σ H (.int i)) (hb : ED K b tb σ H (.int j)) : ED K b (tCB rMax2 (tCons ta (tCons tb tNil))) σ H (.int (if j > i then j else i)) := fun H1 x1 Q q =>
  ha H1 x1 _ fun v H2 x2 hv => hb H2 (x1.trans x2) _ fun u H3 x3 hu => ⟨i, j, by rw [dq_int hv, dq_int hu], q _ H3 (x2.trans x3) (.int _)⟩
theorem ed_min2 {i j : Int} (ha : ED K b ta σ H (.int i)) (hb : ED K b tb σ H (.int j)) : ED K b (tCB rMin2 (tCons ta (tCons tb tNil))) σ H (.int (if j < i then j else i)) := fun H1 x1 Q q =>
  ha H1 x1 _ fun v H2 x2 hv => hb H2 (x1.trans x2) _ fun u H3 x3 hu => ⟨i, j, by rw [dq_int hv, dq_int hu], q _ H3 (x2.trans x3) (.int _)⟩
theorem g_forR {D : Ends} {ts tbd : TS} {g : TG} {N : Int} (Pv : Nat → L2.St → Hp → Prop) (h : ED K b ta σ H (.int N)) (n0 : -(2 ^ 62) ≤ N) (n1 : N < 2 ^ 62) (h0 : ∀ H1, Ex H H1 → Pv 0 σ H1)
    (hs : ∀ i σ H, i < N.toNat → Pv i σ H → g (.int (0 + i)) σ H fun σ2 H2 => tbd { D with nx := Pv (i + 1), ct := Pv (i + 1), bk := ts D } σ2 H2) (hd : ∀ σ H, Pv N.toNat σ H → ts D σ H) : tSeq (tFor (iRng1 (tCons ta tNil)) g tbd) ts D σ H :=
  h H (Ex.refl H) _ fun v H1 x1 hv => by
    have e := dq_int hv
    subst e
    exact ⟨N, rfl, n0, n1, for_range Pv (h0 H1 x1) hs hd⟩
end
theorem g_forD {K : PySem.W.Frag} {b : List Addr} {a : Addr} {n m : Nat} {ta : TA} {σ : L2.St} {H : Hp} {R : List PyData → Prop} {g : TG} {tb : TS} {D : Ends} (h : EGA K b a n m ta σ H R) (kn : Kn b H) (bg : Bag a n H) (hl : ∀ ds, R ds → ds.length ≤ sizeLine)
    (k : ∀ pT vs ds H' H'', ExB a H H' → Bag a m H' → Ex H' H'' → H'' pT = some (.lst vs) → DqAll K b H' vs ds → R ds → tFor (fun _ H R => R (Itl K pT) H) g tb D σ H'') : tFor (iList K (tLst ta)) g tb D σ H :=
  h H (ExB.refl a H) kn bg _ fun vs ds H' x bg' hvs hr => ⟨by rw [dps_len hvs]; exact hl ds hr, fun pT hpT => ⟨pT, rfl, ⟨vs, .inl (.inl upd_same)⟩, k pT vs ds H' _ x bg' (Ex.new hpT) upd_same hvs hr⟩⟩
theorem g_ifOr3 {σ : L2.St} {H : Hp} {t1 t2 t3 : TT} {a c : TS} {D : Ends} (h1 : EvT t1 σ H false) (h2 : EvT t2 σ H false) (h3 : ∀ H2, Ex H H2 → t3 σ H2 fun b H1 => if b = true then a D σ H1 else c D σ H1) : tIfS (tOr t1 (tOr t2 t3)) a c D σ H := by
  refine h1 H (Ex.refl H) _ fun H1 x1 => ?_
  rw [if_neg Bool.false_ne_true]
  refine h2 H1 x1 _ fun H2 x2 => ?_
  rw [if_neg Bool.false_ne_true]
  exact h3 H2 (x1.trans x2)
theorem g_ifE {K : PySem.W.Frag} {σ : L2.St} {H : Hp} {tt : TT} {c : Bool} {t1 t2 ts : TS} {D : Ends} (hc : EvT tt σ H c) (h : ∀ H1, Ex H H1 → (if c = true then t1 { D with nx := ts D } σ H1 else t2 { D with nx := ts D } σ H1)) : tSeq (tIfS tt t1 t2) ts D σ H := hc H (Ex.refl H) _ h
theorem ps_off {X : Cx} {st : Stmt} : PS X st (fun _ _ _ => False) := ⟨fun _ _ _ _ _ _ h => h.elim⟩
structure FnG (P : Program) (w : World) (K : PySem.W.Frag) (mg : Str → Option Value) (base : Heap) (k : Nat) (f : Addr) (fd : FuncData) (ps : List Str) (sp : Sp) : Prop where
  len : ∀ vs H Q E, sp vs H Q E → vs.length = ps.length
  go : ∀ (A : Around) (outer : List Env) (s : Shared) (H : Hp) (args : Args) (us : List Value) (vs : List V) (Q : VK) (E : XK), A.guards = some [] → Room k A → Env0 P w K mg base A outer s H → BindsTo s fd args (ps.zip us) → Vals vs us → sp vs H Q E →
    codeAny (model P w) A (.call (.ref f) args) (CR CX0 outer P w H s Q E) s
theorem deeper_guards {A : Around} {env : Env} (h : A.guards = some []) : (A.deeper env).guards = some [] := by
  first
    | exact h
    | simpa [Around.deeper] using h
section
variable {X : Cx} {k : Nat} {f : Addr} {fd : FuncData} {ps : List Str} {sp : Sp} {x : Str} {st : Stmt} {p pos : Pos} {e : Expr} {es : List Expr} {t : TA}
theorem pe_cdG (D : Def X.K X.mg x st ps f fd) (G : FnG X.prog X.w X.K X.mg X.base k f fd ps sp) (hg : X.A.guards = some []) (hr : Room k X.A) (ha : PA X (e :: es) t) (hgl : Gl X x := by rfl) (hdb : (x == ("__debug__" : Str)) = false := by decide)
    (he : starEach (e :: es) X.env = (false, eval e X.env) :: starEach es X.env := by rfl) (hpl : (backTo pos (starEach es X.env)).any (·.1) = false := by rfl) : PE X (.Call (.Name x p) (e :: es) [] pos) (tCall sp [] E0 t) :=
  ⟨fun pins s σ H Q I h => wpAny_Call_Name_kw (ld_glob I hgl D.m (PySem.W.callWith_K (h₀ := X.base) I.ok.mod.kin D.F.kp (thn (ha.run pos pins s σ H _ I h) fun us s1 ⟨vs, H1, I1, r, q⟩ => ⟨I1.kIn, by
    have q : sp (vs ++ []) H1 Q E0 := q
    rw [List.append_nil] at q
    have hl : (us ++ []).length = ps.length := by rw [List.append_nil, ← r.length]; exact G.len _ _ _ _ q
    have hb := D.b s1 us I1.kIn hl
    rw [List.append_nil] at hb
    refine wpAny_call (codeAny_mono (G.go X.A X.stack s1 H1 ⟨us, []⟩ us vs Q E0 hg hr I1.env0 hb r q) fun res s' hq => ?_)
    rcases res with e' | fl
    · exact hq.elim
    · rcases fl with _ | _ | _ | u
      all_goals first | exact I1.after hq | exact False.elim hq⟩) he hpl) hdb)⟩
end
section
variable {P : Program} {w : World} {K : PySem.W.Frag} {mg : Str → Option Value} {base : Heap}
/-- a def by its body, called where nothing is being shown -/
theorem Def.okG {x : Str} {st : Stmt} {f : Addr} {fd : FuncData} {N ps : List Str} {k : Nat} {sp : Sp} (D : Def K mg x st ps f fd) (S : FnScope N ps (defScope st)) (len : ∀ vs H Q E, sp vs H Q E → vs.length = ps.length)
    (hbody : ∀ (cdv : Value) (A : Around) (outer : List Env) (s : Shared) (H : Hp) (vs : List V) (Q : VK) (E : XK), (A.deeper (envOfC x (defScope st) s.heap.objs.size f cdv)).guards = some [] → Room k (A.deeper (envOfC x (defScope st) s.heap.objs.size f cdv)) → sp vs H Q E →
      ∃ t, PSs (cxOf CX0 P w K mg base N x (defScope st) f cdv A outer s H E).nox (defBody st) t ∧ t { nx := fun _ H' => Q .non H', rt := Q } (start N vs) H) : FnG P w K mg base (k + 1) f fd ps sp := by
  obtain ⟨oc, od, kV, doc, pm, an, cdv, ct, osl, rfl, lk, hcd⟩ := D.F.ex
  refine ⟨len, fun A outer s H args us vs Q E hgu hr e0 hb rv hsp => ?_⟩
  have keep := fun b o e => (e0.bs b o e).1
  have inS := e0.mod.kin.keeps keep
  refine codeAny_call_function hr.depth (inS _ _ lk) rfl S.co S.gen rfl (PySem.W.codeRec_of inS hcd) (hb _ _ _ _ (wpAny_newFunctionEnv_cells S.kind (fun y hy => ?_) fun env he s1 ic => ?_))
  · rcases S.par y.1 (List.of_mem_zip hy).1 with z | z
    · exact Or.inl z
    · exact Or.inr ⟨z, PySem.W.cellsFrom_some _ _ _ (Or.inl z)⟩
  · subst he
    refine ⟨(e0.mod.nolimit.keeps keep).keeps ic.toInCall.keep, codeAny_func ?_⟩
    obtain ⟨t, ht, hq⟩ := hbody cdv A outer s H vs Q E (deeper_guards hgu) (hr.deeper _) hsp
    have I := inv_start (CX := CX0) (mg := mg) (E := E) S hr.hd e0 (len _ _ _ _ hsp) rv ic
    refine wpAny_mono (ht.nox.run [] s1 _ H _ I hq) (fun fl s' hs => ?_) fun _ _ hs => hs
    rcases fl with _ | _ | _ | u
    all_goals first
      | (obtain ⟨v, σ', H', J, r', q'⟩ := hs; exact ⟨v, H', J.os, J.bare, J.base, J.hok, r', q'⟩)
      | (obtain ⟨σ', H', J, q'⟩ := hs; exact ⟨V.non, H', J.os, J.bare, J.base, J.hok, rfl, q'⟩)
      | (obtain ⟨_, _, _, q'⟩ := hs; exact False.elim q')
end
/-! ### the law called where nothing is being shown -/
abbrev lstO (vs : List Value) : Obj := { cls := .type "list", data := .seq vs.toArray }
section
variable {P : Program} {w : World} {K : PySem.W.Frag} {mg mb : Str → Option Value} {k : Nat} {fa a : Addr} {fd : FuncData} {x : Str} {sp : Sp} {s : Shared} {vs : List Value} {ns : List Int}
/-- what the call leaves -/
def Left (s : Shared) (r : Result) (s' : Shared) : Prop := r = .ok (.ret (.bool true)) ∧ OldK s.heap s'.heap ∧ s'.os = s.os ∧ AllBare s'.gens
theorem law_from {H : Hp} (KX : K.In s.heap) (hm : s.heap.Ns mainGlobals mg) (hb : s.heap.Ns builtinsNs mb) (hbb : ∀ x : Str, x ≠ "__name__" → mb x = bootBuiltins x) (hlim : s.heap.NoLimit) (hge : s.gens = #[]) (ha : s.heap.get? a = some (lstO vs)) (hr : Room k callerA)
    (F : ∀ base : Heap, K.In base → base.Ns mainGlobals mg → FnG P w K mg base k fa fd [x] sp) (hbind : ∀ (s : Shared) (u : Value), BindsTo s fd ⟨[u], []⟩ [(x, u)]) (hsp : sp [.ref a] H (fun v _ => v = .bl true) fun _ _ _ => False) (hok : HOk P w H s.heap)
    (hA : ∀ c, H c = none ∨ (c = a ∧ K.lookup c = none ∧ ∃ xs, H c = some (.frz (lstO vs) (.lst xs)))) : codeAny (model P w) callerA (.call (.ref fa) ⟨[.ref a], []⟩) (Left s) s := by
  have nsOf : ∀ {c : Addr} {m : Str → Option Value}, s.heap.Ns c m → (hidT s.heap H).Ns c m := fun {c m} ⟨o, es, ep, e, d, r⟩ => by
    refine ⟨o, es, ep, hidT_get e ?_, d, r⟩
    rcases hA c with z | ⟨rfl, _⟩
    · exact z
    · rw [ha] at e
      cases e
      cases d
  have inB : K.In (hidT s.heap H) := fun c o e => hidT_get (KX c o e) (by
    rcases hA c with z | ⟨_, z, _⟩
    · exact z
    · rw [z] at e; cases e)
  have hM : Mod K mg (hidT s.heap H) := ⟨inB, nsOf hm, ⟨mb, nsOf hb, hbb⟩, let ⟨mc, h1, h2⟩ := hlim; ⟨mc, nsOf h1, h2⟩⟩
  have env : Env0 P w K mg (hidT s.heap H) callerA [] s H := ⟨rfl, hM, fun _ _ e => of_hidT e, Nat.le_of_eq (hidT_size _ _), trivial, (fun _ z => nomatch z), hok, .of_eq hge⟩
  refine codeAny_mono ((F _ inB (nsOf hm)).go callerA [] s H ⟨[.ref a], []⟩ [.ref a] [.ref a] _ _ rfl hr env (hbind s (.ref a)) (.cons rfl .nil) hsp) fun r s' h => ?_
  rcases r with e | fl
  · exact h.elim
  rcases fl with _ | _ | _ | u
  all_goals try exact False.elim h
  obtain ⟨v, H', os, bare, un, hok', r', q⟩ := h
  have q : v = .bl true := q
  subst q
  obtain rfl : u = Value.bool true := r'
  refine ⟨rfl, OldK.of_keep fun c o e => ?_, os, bare⟩
  rcases hA c with z | ⟨rfl, _, xs, z⟩
  · exact un.keep c o e z (fun y => nomatch y) (by simp)
  · obtain ⟨g1, _⟩ := hok c _ z
    obtain ⟨g2, _⟩ := hok' c _ (un.frzs c _ _ z)
    rw [e] at g1
    cases g1
    exact g2
theorem law_goG (KX : K.In s.heap) (hm : s.heap.Ns mainGlobals mg) (hb : s.heap.Ns builtinsNs mb) (hbb : ∀ x : Str, x ≠ "__name__" → mb x = bootBuiltins x) (hlim : s.heap.NoLimit) (hge : s.gens = #[]) (ha : s.heap.get? a = some (lstO vs)) (hi : IntsAre vs ns) (hl : ns.length ≤ sizeLine) (hr : Room k callerA)
    (F : ∀ base : Heap, K.In base → base.Ns mainGlobals mg → FnG P w K mg base k fa fd [x] sp) (hbind : ∀ (s : Shared) (u : Value), BindsTo s fd ⟨[u], []⟩ [(x, u)]) (hsp : ∀ H : Hp, SqL K H a (ns.map V.int) → sp [.ref a] H (fun v _ => v = .bl true) fun _ _ _ => False) : codeAny (model P w) callerA (.call (.ref fa) ⟨[.ref a], []⟩) (Left s) s := by
  have rv := vals_ints hi
  have ln := hi.length
  cases hk : K.lookup a with
  | some o =>
    have e := KX a o hk
    rw [ha] at e
    cases e
    refine law_from (H := fun _ => none) KX hm hb hbb hlim hge ha hr F hbind (hsp _ (.inr ⟨_, vs.toArray, _, hk, rfl, rfl, rfl, ?_, by simpa using rv⟩)) (fun c u z => nomatch z) fun _ => .inl rfl
    rw [List.size_toArray, ln]
    exact hl
  | none =>
    have at_a : (fun c => if c = a then some (HO.frz (lstO vs) (.lst (ns.map V.int))) else none : Hp) a = some (.frz (lstO vs) (.lst (ns.map V.int))) := if_pos rfl
    refine law_from (H := fun c => if c = a then some (.frz (lstO vs) (.lst (ns.map V.int))) else none) KX hm hb hbb hlim hge ha hr F hbind (hsp _ (.inl (.inr ⟨_, at_a⟩))) (fun c u z => ?_) fun c => ?_
    · by_cases e : c = a
      · subst e
        rw [at_a] at z
        cases z
        exact ⟨ha, by rw [List.length_map]; exact hl, vs, _, rv, ha⟩
      · have z' := (if_neg e).symm.trans z
        cases z'
    · by_cases e : c = a
      · subst e
        exact .inr ⟨rfl, hk, _, at_a⟩
      · exact .inl (if_neg e)
end

/-- a def that may raise, where it raises nothing -/
theorem FnOk.calm {P : Program} {w : World} {K : PySem.W.Frag} {mg : Str → Option Value} {base : Heap} {k : Nat} {f : Addr} {fd : FuncData} {ps : List Str} {sp : Sp} (F : FnOk P w K mg base (L2.CX P w) k f fd ps sp) : FnOk P w K mg base CX0 k f fd ps (fun vs H Q _ => sp vs H Q fun _ _ _ => False) :=
  ⟨fun vs H Q E h => F.len vs H Q _ h, fun A outer s H args us vs Q E hr e0 hb rv hsp => codeAny_mono (F.run A outer s H args us vs Q _ hr e0 hb rv hsp) fun r s' h => by
    rcases r with e | fl
    · obtain ⟨_, _, _, _, _, _, _, _, _, _, _, _, z⟩ := h
      exact z.elim
    · rcases fl with _ | _ | _ | u
      all_goals exact h⟩
end Wr

set_option Elab.async false
set_option linter.all false
set_option maxRecDepth 100000
set_option maxHeartbeats 4000000
namespace Wr
open PySem PySem.Spec PyProof.Rows L2 Evl TL
theorem strEq (x y : Str) : PyData.eqv (.str x) (.str y) = decide (x = y) := by
  simp only [PyData.eqv]
  rfl
theorem inD_str (z : Str) (ws : List Str) : inD (.str z) (ws.map .str) = decide (z ∈ ws) := by
  unfold inD
  by_cases h : z ∈ ws
  · rw [decide_eq_true h]
    exact List.any_eq_true.mpr ⟨.str z, List.mem_map.mpr ⟨z, h, rfl⟩, by rw [strEq]; exact decide_eq_true rfl⟩
  · rw [decide_eq_false h]
    apply Bool.eq_false_iff.mpr
    intro q
    obtain ⟨y, hy, e⟩ := List.any_eq_true.mp q
    obtain ⟨x, hx, rfl⟩ := List.mem_map.mp hy
    rw [strEq] at e
    exact h (of_decide_eq_true e ▸ hx)
theorem eqv_strn {d : PyData} (h : isD "str" d = false) (x : Str) : PyData.eqv (.str x) d = false := by
  cases d <;> first | (simp only [PyData.eqv]; done) | (simp [isD, dTy, tyIs] at h)
theorem inD_nstr {d : PyData} (h : isD "str" d = false) (ws : List Str) : inD d (ws.map .str) = false := by
  unfold inD
  apply Bool.eq_false_iff.mpr
  intro q
  obtain ⟨y, hy, e⟩ := List.any_eq_true.mp q
  obtain ⟨x, hx, rfl⟩ := List.mem_map.mp hy
  rw [eqv_strn h] at e
  cases e
theorem eqv_nil (ds : List PyData) : PyData.eqv (.tuple ds) (.tuple []) = ds.isEmpty := by
  cases ds <;> simp only [PyData.eqv, PyData.eqvAll, List.isEmpty]
theorem sh_nil : SeqAt.shaped (.tuple []) = true := (sh_strs (xs := []) rfl).1
def isN (d : PyData) : Bool := match d with
  | .none => true
  | _ => false
/-! ### lists that are new -/
def EL (K : PySem.W.Frag) (b : List Addr) (te : TE) (σ : L2.St) (H : Hp) (ds : List PyData) : Prop := ∀ H1, Ex H H1 → ∀ Q : VK, (∀ p vs H2, Ex H1 H2 → H1 p = none → H2 p = some (.lst vs) → DqAll K b H2 vs ds → Q (.ref p) H2) → te σ H1 Q
/-- a def that tells a new list -/
def spR (K : PySem.W.Frag) (pre : List PyData → Prop) (f : List PyData → List PyData) : Sp := fun vs H Q _ => ∃ b ds, Kn b H ∧ DqAll K b H vs ds ∧ pre ds ∧ ∀ q us H', H q = none → Ex H H' → H' q = some (.lst us) → DqAll K b H' us (f ds) → Q (.ref q) H'
theorem spR_len {K : PySem.W.Frag} {n : Nat} {pre : List PyData → Prop} {f : List PyData → List PyData} (hl : ∀ ds, pre ds → ds.length = n) {vs : List V} {H : Hp} {Q : VK} {E : XK} (h : spR K pre f vs H Q E) : vs.length = n := by
  obtain ⟨b, ds, _, hd, hp, _⟩ := h
  rw [dps_len hd, hl ds hp]
section
variable {K : PySem.W.Frag} {b : List Addr} {σ : L2.St} {H H' : Hp} {ta tb te : TE} {t : TA} {tt : TT} {ts t1 : TS} {ds es : List PyData} {d : PyData} {D : Ends}
theorem EL.ed (kn : Kn b H) (h : EL K b te σ H ds) : ED K b te σ H (.list ds) := fun H1 x1 Q q => h H1 x1 Q fun p vs H2 x2 hp h2 hv => q _ H2 x2 (.lst (.inl (.inl (by rw [hid_ne ((kn.up x1).new hp)]; exact h2))) hv)
theorem EL.to (h : EL K b te σ H ds) (e : ds = es) : EL K b te σ H es := e ▸ h
theorem el_call {pre : List PyData → Prop} {f : List PyData → List PyData} {E : XK} (kn : Kn b H) (ha : EA K b t σ H ds) (hp : pre ds) : EL K b (tCall (spR K pre f) [] E t) σ H (f ds) := fun H1 x1 Q q =>
  ha H1 x1 _ fun vs H2 x2 hvs => ⟨b, ds, kn.up (x1.trans x2), by rw [List.append_nil]; exact hvs, hp, fun p us H3 hp3 x3 h3 hu => q p us H3 (x2.trans x3) (by
    cases z : H1 p with
    | none => rfl
    | some o => rw [x2 _ _ z] at hp3; cases hp3) h3 hu⟩
theorem ea_star (ha : ED K b ta σ H (.list ds)) (hr : EA K b t σ H es) : EA K b (StX.tStar K ta t) σ H (ds ++ es) := fun H1 x1 Q q =>
  ha H1 x1 _ fun v H2 x2 hv => by
    cases hv with
    | @lst p xs _ g1 g2 => exact ⟨p, xs, rfl, .inr (ex_l hid_le g1), hr H2 (x1.trans x2) _ fun ys H3 x3 hy => q _ H3 (x2.trans x3) (dps_app (DqAll.up g2 x3) hy)⟩
theorem EA.to (h : EA K b t σ H ds) (e : ds = es) : EA K b t σ H es := e ▸ h
theorem g_retL (ha : EA K b t σ H ds) (hl : ds.length ≤ sizeLine) (k : ∀ q us H', H q = none → Ex H H' → H' q = some (.lst us) → DqAll K b H' us ds → D.rt (.ref q) H') : tRet (tLst t) D σ H :=
  ha H (Ex.refl H) _ fun vs H1 x1 hv => ⟨by rw [dps_len hv]; exact hl, fun p hp => k p vs _ (by
    cases z : H p with
    | none => rfl
    | some o => rw [x1 _ _ z] at hp; cases hp) (x1.trans (Ex.new hp)) upd_same (DqAll.up hv (Ex.new hp))⟩
theorem g_ifF (h : EvT tt σ H false) (k : ∀ H1, Ex H H1 → ts D σ H1) : tSeq (tIfS tt t1 tNext) ts D σ H := h H (Ex.refl H) _ fun H1 x1 => by
  rw [if_neg Bool.false_ne_true]
  exact k H1 x1
theorem g_ifT (h : EvT tt σ H true) (k : ∀ H1, Ex H H1 → t1 { D with nx := ts D } σ H1) : tSeq (tIfS tt t1 tNext) ts D σ H := h H (Ex.refl H) _ fun H1 x1 => by
  rw [if_pos rfl]
  exact k H1 x1
/-- rows.extend(..) -/
theorem g_ext {j : Nat} {F : Addr} {vs : List V} (hσ : σ[j]? = some (some (.ref F))) (hF : H F = some (.lst vs)) (hl : vs.length + ds.length ≤ 10000000) (he : EL K b te σ H ds) (kk : ∀ us H', Ex H H' → DqAll K b H' us ds → D.nx σ (upd H' F (.lst (vs ++ us)))) : tDrop (tBM K "list" rExtend (tVar j) (tCons te tNil)) D σ H :=
  ⟨.ref F, hσ, .inl ⟨rfl, _, .inl (.inl hF)⟩, he H (Ex.refl H) _ fun p us H' x hp h' hu => ⟨F, p, vs, us, rfl, rfl, x _ _ hF, h', by rw [dps_len hu, sizeLine_eq]; omega, kk us H' x hu⟩⟩
end
section
variable {K : PySem.W.Frag} {b : List Addr} {σ : L2.St} {H H' : Hp} {ta tb te : TE} {d : PyData} {ds : List PyData}
theorem ed_isN (ha : ED K b ta σ H d) : ED K b (tIsN ta) σ H (.bool (isN d)) := fun H1 x1 Q q =>
  ha H1 x1 _ fun v H2 x2 hv => by
    have e : decide (v = .non) = isN d := by
      cases hv <;> first | rfl | exact decide_eq_false (fun z => nomatch z)
    rw [e]
    exact q _ H2 x2 (.bl _)
end
theorem pe_gS {X : Cx} {x z : Str} {t : Tok} {pos : Pos} (hm : X.mg x = some (.str z t)) (hg : Gl X x := by rfl) (hd : (x == ("__debug__" : Str)) = false := by decide) : PE X (.Name x pos) (tC (.str z)) := pe_glob hg hm ⟨t, rfl⟩ hd
/-! ### texts -/
def rStarts : V → List V → Hp → VK → Prop := fun x xs H Q => ∃ a b, x = .str a ∧ xs = [.str b] ∧ Q (.bl (Txt.startswith a b)) H
theorem mt_startsD {X : Cx} : MtR X "str.startswith" rStarts := mt_startswith
def rNinSg : R2 := fun x y H Q => ∃ (c : Nat) (z : Str), x = .str ⟨#[c]⟩ ∧ y = .str z ∧ Q (.bl (!decide (c ∈ z.cps.toList))) H
theorem op_ninSg {X : Cx} : OpR X (compareOp .NotIn) rNinSg := op_notIn_sign
def rSIdx : V → List V → Hp → VK → Prop := fun x xs H Q => ∃ a b i rest, x = .str a ∧ xs = [.str b] ∧ Builtin.Str.occurrences a b 0 a.length 1 = i :: rest ∧ Q (.int (i : Nat)) H
theorem mt_sidx {X : Cx} : MtR X "str.index" rSIdx := mt_sindex
theorem starts_one (x : Str) (c : Nat) : Txt.startswith x ⟨#[c]⟩ = decide ((tl x).head? = some c) := by
  have h := PySem.StrLaws.subAt_one x c 0
  apply Bool.eq_iff_iff.mpr
  unfold Txt.startswith
  rw [Bool.and_eq_true, decide_eq_true_iff, decide_eq_true_iff, h, List.head?_eq_getElem?]
theorem starts_nil (x : Str) : Txt.startswith x "" = true := by
  unfold Txt.startswith
  rw [PySem.StrLaws.subAt_eq]
  have e : ("" : Str) = ⟨#[]⟩ := by decide +kernel
  rw [e]
  show (decide (0 + 0 ≤ x.length) && ((x.cps.toList.drop 0).take 0 == [])) = true
  rw [List.take_zero, decide_eq_true (by omega)]
  rfl
theorem sgn_eq (c : Nat) (x : Str) : ((⟨#[c]⟩ : Str) = x) ↔ tl x = [c] := by
  constructor
  · rintro rfl
    rfl
  · intro h
    exact ext_tl h.symm
section
variable {K : PySem.W.Frag} {b : List Addr} {σ : L2.St} {H H' : Hp} {ta tb te : TE} {tt : TT} {ts : TS} {d : PyData} {ds : List PyData} {D : Ends}
theorem ed_eqS {x y : Str} (ha : ED K b ta σ H (.str x)) (hb : ED K b tb σ H (.str y)) : ED K b (tOp rEq ta tb) σ H (.bool (decide (x = y))) :=
  ed_op ha hb fun H1 v u Q _ hx hy q => by
    have e1 := dq_str hx
    have e2 := dq_str hy
    subst e1 e2
    have e : decide (V.str x = V.str y) = decide (x = y) := by
      by_cases h : x = y
      · rw [decide_eq_true h, h, decide_eq_true rfl]
      · rw [decide_eq_false h, decide_eq_false fun z => h (by injection z)]
    refine ⟨rfl, ?_⟩
    rw [e]
    exact q _ H1 (Ex.refl H1) (.bl _)
theorem ed_neS {x y : Str} (ha : ED K b ta σ H (.str x)) (hb : ED K b tb σ H (.str y)) : ED K b (tOp rNe ta tb) σ H (.bool (!decide (x = y))) :=
  ed_op ha hb fun H1 v u Q _ hx hy q => by
    have e1 := dq_str hx
    have e2 := dq_str hy
    subst e1 e2
    have e : decide (V.str x = V.str y) = decide (x = y) := by
      by_cases h : x = y
      · rw [decide_eq_true h, h, decide_eq_true rfl]
      · rw [decide_eq_false h, decide_eq_false fun z => h (by injection z)]
    refine ⟨rfl, ?_⟩
    rw [e]
    exact q _ H1 (Ex.refl H1) (.bl _)
theorem ed_eqI {x y : Int} (ha : ED K b ta σ H (.int x)) (hb : ED K b tb σ H (.int y)) : ED K b (tOp rEq ta tb) σ H (.bool (decide (x = y))) :=
  ed_op ha hb fun H1 v u Q _ hx hy q => by
    have e1 := dq_int hx
    have e2 := dq_int hy
    subst e1 e2
    have e : decide (V.int x = V.int y) = decide (x = y) := by
      by_cases h : x = y
      · rw [decide_eq_true h, h, decide_eq_true rfl]
      · rw [decide_eq_false h, decide_eq_false fun z => h (by injection z)]
    refine ⟨rfl, ?_⟩
    rw [e]
    exact q _ H1 (Ex.refl H1) (.bl _)
theorem ed_neI {x y : Int} (ha : ED K b ta σ H (.int x)) (hb : ED K b tb σ H (.int y)) : ED K b (tOp rNe ta tb) σ H (.bool (!decide (x = y))) :=
  ed_op ha hb fun H1 v u Q _ hx hy q => by
    have e1 := dq_int hx
    have e2 := dq_int hy
    subst e1 e2
    have e : decide (V.int x = V.int y) = decide (x = y) := by
      by_cases h : x = y
      · rw [decide_eq_true h, h, decide_eq_true rfl]
      · rw [decide_eq_false h, decide_eq_false fun z => h (by injection z)]
    refine ⟨rfl, ?_⟩
    rw [e]
    exact q _ H1 (Ex.refl H1) (.bl _)
theorem ed_notN (ha : ED K b ta σ H d) : ED K b (tNotN ta) σ H (.bool (!isN d)) := fun H1 x1 Q q =>
  ha H1 x1 _ fun v H2 x2 hv => by
    have e : decide (v = .non) = isN d := by
      cases hv <;> first | rfl | exact decide_eq_false (fun z => nomatch z)
    rw [e]
    exact q _ H2 x2 (.bl _)
theorem ed_starts {z y : Str} (ha : ED K b ta σ H (.str z)) (hb : ED K b tb σ H (.str y)) : ED K b (tBM K "str" rStarts ta (tCons tb tNil)) σ H (.bool (Txt.startswith z y)) := fun H1 x1 Q q =>
  ha H1 x1 _ fun x H2 x2 hx => by
    cases hx
    refine ⟨rfl, hb H2 (x1.trans x2) _ fun v H3 x3 hv => ?_⟩
    cases hv
    exact ⟨z, y, rfl, rfl, q _ H3 (x2.trans x3) (.bl _)⟩
theorem ed_slS {z : Str} {tl th : TO} {lo hi : Option Int} (ha : ED K b ta σ H (.str z)) (h1 : EO tl σ H lo) (h2 : EO th σ H hi) (hz : z.length ≤ sizeLine) : ED K b (tSl rSlS ta tl th) σ H (.str (cutS z lo hi)) := fun H1 x1 Q q =>
  ha H1 x1 _ fun x H2 x2 hx => h1 H2 (x1.trans x2) _ fun H3 x3 => h2 H3 ((x1.trans x2).trans x3) _ fun H4 x4 => ⟨z, dq_str hx, hz, q _ H4 ((x2.trans x3).trans x4) (.str _)⟩
theorem ed_ninSg {c : Nat} {z : Str} (ha : ED K b ta σ H (.str ⟨#[c]⟩)) (hb : ED K b tb σ H (.str z)) : ED K b (tOp rNinSg ta tb) σ H (.bool (!decide (c ∈ z.cps.toList))) :=
  ed_op ha hb fun H1 x y Q _ hx hy q => ⟨c, z, dq_str hx, dq_str hy, q _ H1 (Ex.refl H1) (.bl _)⟩
theorem ed_sidx {z y : Str} {i : Nat} {rest : List Nat} (ha : ED K b ta σ H (.str z)) (hb : ED K b tb σ H (.str y)) (ho : Builtin.Str.occurrences z y 0 z.length 1 = i :: rest) : ED K b (tBM K "str" rSIdx ta (tCons tb tNil)) σ H (.int (i : Nat)) := fun H1 x1 Q q =>
  ha H1 x1 _ fun x H2 x2 hx => by
    cases hx
    refine ⟨rfl, hb H2 (x1.trans x2) _ fun v H3 x3 hv => ?_⟩
    cases hv
    exact ⟨z, y, i, rest, rfl, rfl, ho, q _ H3 (x2.trans x3) (.int _)⟩
end
namespace Fm
open PySem.Builtin PySem.Builtin.Str PySem.Builtin.Int PySem.Builtin.Float
theorem log_100 {n : Nat} (hn : n < 100) : ((n : Int)).natAbs.log2 < 1920 := by
  show n.log2 < 1920
  by_cases h0 : n = 0
  · subst h0; decide
  · exact (Nat.log2_lt h0).mpr (Nat.lt_of_lt_of_le hn (Nat.le_trans (show 100 ≤ 2 ^ 7 by decide) (Nat.pow_le_pow_right (by decide) (by decide))))
theorem gives_int_02d (n : Nat) (hn : n < 100) (t u : Tok) : Gives («int.__format__» ⟨[.int (n : Int) t, .str "02d" u], []⟩) (.str ⟨#[48 + n / 10, 48 + n % 10]⟩) := by
  refine .of_wp fun M A E s Q h => ?_
  obtain ⟨hp, gg, d, tk, os⟩ := s
  have hT : (⟨hp, gg, d, tk, os⟩ : Shared).TypeIs (.int (n : Int) t) "int" := rfl
  have hS : (⟨hp, gg, d, tk, os⟩ : Shared).TypeIs (.str "02d" u) "str" := rfl
  have hl := log_100 hn
  repeat wp_step
  rw [if_pos hl]
  refine wpAny_pure ?_
  have key : ∀ X : Str, X = ⟨#[48 + n / 10, 48 + n % 10]⟩ → wpAny M A (retStr X) (fun fin s' => ∃ v, fin = .done (.ret v) ∧ Q v s') E ⟨hp, gg, d, tk, os⟩ := fun X e => by
    subst e
    obtain ⟨h1, h2⟩ := h
    exact wpAny_bind (wpAny_mkStr (wpAny_pure ⟨_, rfl, h2⟩) h1)
  refine key _ ?_
  clear key h hT hS hl
  clear Q E A M hp gg d tk os t u
  revert n
  decide +kernel
end Fm
def tFmt2 (te : TE) : TE := fun σ H Q => te σ H fun x H1 => ∃ n : Nat, x = .int (n : Int) ∧ n < 100 ∧ Q (.str (twoS n)) H1
theorem pe_fmt2 {X : Cx} {e : Expr} {te : TE} {pos pos2 pos3 : Pos} {j} (he : PE X e te) : PE X (.FormattedValue e (-1) (some (.JoinedStr [.Constant (.str "02d") j pos3] pos2)) pos) (tFmt2 te) := by
  refine ⟨fun pins s σ H Q I h => ?_⟩
  refine wpAny_FormattedValue_spec (thn (he.run pins s σ H _ I h) fun v s1 ⟨x, H1, I1, r1, n, e, hn, q⟩ => ?_)
  subst e
  obtain ⟨t, rfl⟩ := r1
  refine wpAny_JoinedStr_one (Calls.Constant_str ⟨"02d", _, rfl, ?_⟩)
  exact wpAny_formatField_spec (by decide) (fun s' => typeIs_int s' _ t) F.slot_int_format F.entry_int_format F.args_int_format_2 (fun u => Fm.gives_int_02d n hn t u) ⟨.str (twoS n), H1, (I1.tok _).tok _, ⟨_, rfl⟩, q⟩ (by decide) (by show 2 ≤ sizeLine; decide)
theorem ed_fmt2 {K : PySem.W.Frag} {b : List Addr} {σ : L2.St} {H : Hp} {ta : TE} {n : Nat} (ha : ED K b ta σ H (.int (n : Nat))) (hn : n < 100) : ED K b (tFmt2 ta) σ H (.str (twoS n)) := fun H1 x1 Q q =>
  ha H1 x1 _ fun v H2 x2 hv => ⟨n, dq_int hv, hn, q _ H2 x2 (.str _)⟩
end Wr

set_option Elab.async false
set_option linter.all false
set_option maxRecDepth 100000
set_option maxHeartbeats 4000000
namespace Wr
open PySem PySem.Spec PyProof.Rows L2 Evl TL
abbrev s_tens : Stmt := topS 30
abbrev s_both : Stmt := topS 31
abbrev s_signed : Stmt := topS 32
abbrev s_plain : Stmt := topS 33
abbrev NPl : List Str := ["figures", "signs", "number", "figure"]
theorem sc_plain : FnScope NPl ["figures", "signs"] (defScope s_plain) := ⟨rfl, rfl, rfl, by decide +kernel, rfl, by decide +kernel, by decide +kernel⟩
abbrev NSg : List Str := ["text", "ahead", "signs", "below", "figures", "number"]
theorem sc_signed : FnScope NSg ["text", "ahead", "signs"] (defScope s_signed) := ⟨rfl, rfl, rfl, by decide +kernel, rfl, by decide +kernel, by decide +kernel⟩
theorem sc_tens : FnScope ["text"] ["text"] (defScope s_tens) := ⟨rfl, rfl, rfl, by decide +kernel, rfl, by decide +kernel, by decide +kernel⟩
theorem sc_both : FnScope ["text", "number"] ["text"] (defScope s_both) := ⟨rfl, rfl, rfl, by decide +kernel, rfl, by decide +kernel, by decide +kernel⟩
def tenT : Str := "0123456789"
def sixT : Str := "0123456789abcdef"
theorem tl_ten : tl tenT = tenL := by decide +kernel
theorem tl_six : tl sixT = sixL := by decide +kernel
def optI : Option Int → PyData
  | none => .none
  | some i => .int i
def SgT (s : Str) : Prop := s = tenT ∨ s = sixT
theorem ten_occ : (tenL.all fun c => Builtin.Str.occurrences tenT ⟨#[c]⟩ 0 tenT.length 1 == [tenL.idxOf c]) = true := by decide +kernel
theorem six_occ : (sixL.all fun c => Builtin.Str.occurrences sixT ⟨#[c]⟩ 0 sixT.length 1 == [sixL.idxOf c]) = true := by decide +kernel
theorem sg_occ {s : Str} (h : SgT s) {c : Nat} (hc : c ∈ tl s) : Builtin.Str.occurrences s ⟨#[c]⟩ 0 s.length 1 = [(tl s).idxOf c] := by
  rcases h with rfl | rfl
  · rw [tl_ten] at hc ⊢
    exact eq_of_beq (List.all_eq_true.mp ten_occ c hc)
  · rw [tl_six] at hc ⊢
    exact eq_of_beq (List.all_eq_true.mp six_occ c hc)
theorem sg_len {s : Str} (h : SgT s) : s.length ≤ 16 := by
  rcases h with rfl | rfl <;> decide +kernel
theorem goN_cons (sg : List Nat) (acc : Int) (c : Nat) (r : List Nat) : goN sg acc (c :: r) = if c ∈ sg then goN sg (acc * (sg.length : Nat) + (sg.idxOf c : Nat)) r else none := rfl
def PlPre (ds : List PyData) : Prop := ∃ x s, ds = [.str x, .str s] ∧ SgT s ∧ x.length ≤ 1000000
def plF (ds : List PyData) : PyData := match ds with
  | [.str x, .str s] => optI (plN (tl s) (tl x))
  | _ => .none
theorem len_tl' (x : Str) : x.length = (tl x).length := len_tl x
section
variable {P : Program} {w : World} {K : PySem.W.Frag} {mg : Str → Option Value} {base : Heap} {f g g2 : Addr} {fd gd gd2 : FuncData} {tk : Tok}
theorem ok_plain (D : Def K mg "plain_number" s_plain ["figures", "signs"] f fd) (B : Blt mg) (mF : mg "MOST_FIGURES" = some (.int 40 tk)) : FnOk P w K mg base CX0 1 f fd ["figures", "signs"] (spP K PlPre plF) := by
  refine D.F.ok sc_plain (fun vs H Q E h => spP_len (fun _ ⟨_, _, e, _⟩ => by rw [e]; rfl) h) (fun cdv A outer s H vs Q E hr h => ?_)
  obtain ⟨b, ds, kn, hd, ⟨x, sg, rfl, hsg, hx⟩, q⟩ := h
  obtain ⟨v, v2, d, d2, rfl, ed, h1, h2⟩ := two_of hd rfl
  cases ed
  have e1 := dq_str h1
  have e2 := dq_str h2
  subst e1 e2
  refine ⟨_, pss_cons (ps_if (PW.pt (pw_or (pt_not (pt_chain op_le op_le pe_int (pe_callB call_lenD1 rfl B.len bb_len (pa_cons (pv 0) pa_nil)) (pe_gI mF)))
      (pw_or1 (PW.pt (pw_and (pt_cmpR op_eq (pe_ix ix_str (pv 0) pe_int (fun _ _ => rfl)) pe_str (nomark _)) (pw_and1 (pt_cmpR op_ne (pv 0) pe_str (nomark _)))))))) (pss_one (ps_ret pe_non)) pss_nil)
    (pss_cons (ps_set (i := 2) sc_plain.nd rfl (Or.inl rfl) pe_int)
    (pss_cons (ps_for PassesOwn.never rfl (pi_str (pv 0)) (pg_name (i := 3) sc_plain.nd rfl (Or.inl rfl))
      (pss_cons (ps_if (pt_cmpR op_ninSg (pv 3) (pv 1) rfl) (pss_one (ps_ret pe_non)) pss_nil)
      (pss_one (ps_set (i := 2) sc_plain.nd rfl (Or.inl rfl) (pe_op op_add (pe_op op_mul (pv 2) (pe_callB call_lenD1 rfl B.len bb_len (pa_cons (pv 1) pa_nil))) (pe_bm PySem.F.plainAttrs_str PySem.F.slot_str_index PySem.F.type_str_index mt_sidx (pv 1) (pa_cons (pv 3) pa_nil)))))))
    (pss_one (ps_ret (pv 2))))), ?_⟩
  have q : ∀ v H', Ex H H' → Dq K b H' v (optI (plN (tl sg) (tl x))) → Q v H' := q
  have hxl : x.length ≤ sizeLine := by rw [sizeLine_eq]; omega
  have hlen : ∀ {σ' H'}, σ'[0]? = some (some (V.str x)) → ED K b (tCB (rLen K) (tCons (tVar 0) tNil)) σ' H' (.int (x.length : Nat)) := fun {σ' H'} hs => ed_len (d := .str x) (ed_var hs (.str x)) (.inl rfl) fun y e => by cases e; exact hxl
  have t1 := et_n (et_t (ed_chain (K := K) (b := b) (σ := start NPl [.str x, .str sg]) (H := H) (g := fun i j => decide (i ≤ j)) (g' := fun i j => decide (i ≤ j)) (ed_int (i := 1)) (hlen rfl) (ed_c (v := .int 40) (.int 40))))
  -- behind the test
  have rest : ∀ H1, Ex H H1 → plN (tl sg) (tl x) = goN (tl sg) 0 (tl x) → tSeq (tAsg (tC (.int 0)) (gName 2)) (tSeq (tFor (iStr (tVar 0)) (gName 3) (tSeq (tIfS (tTest (tOp rNinSg (tVar 3) (tVar 1))) (tRet (tC .non)) tNext) (tAsg (tOp (rI0 fun i j => .int (i + j)) (tOp (rI CMul fun i j => .int (i * j)) (tVar 2) (tCB (rLen K) (tCons (tVar 1) tNil))) (tBM K "str" rSIdx (tVar 1) (tCons (tVar 3) tNil))) (gName 2)))) (tRet (tVar 2))) { nx := fun _ H' => Q .non H', rt := Q } (start NPl [.str x, .str sg]) H1 := fun H1 x1 hpl => by
    refine g_set (ed_int (K := K) (b := b) (i := 0)) fun v3 H2 x2 hv3 => ?_
    have e3 := dq_int hv3
    subst e3
    have x12 := x1.trans x2
    refine ⟨.str x, rfl, x, rfl, ?_⟩
    refine for_it walk_str (fun i σ' H' => ∃ (acc : Int) (u : Option V), σ' = [some (.str x), some (.str sg), some (.int acc), u] ∧ Ex H H' ∧ goN (tl sg) acc ((tl x).drop i) = goN (tl sg) 0 (tl x)) ⟨0, none, rfl, x12, rfl⟩ (fun _ _ _ _ _ => trivial) ?_ ?_
    · intro i xv σ' H3 H3' hi ⟨acc, u, es, x3, hg⟩ ⟨eH, c, hc, ev⟩
      subst es eH ev
      have hci : (tl x)[i]? = some c := by
        show x.cps.toList[i]? = some c
        rw [Array.getElem?_toList]
        exact hc
      have hdr : (tl x).drop i = c :: (tl x).drop (i + 1) := by
        obtain ⟨hlt, e⟩ := List.getElem?_eq_some_iff.mp hci
        rw [List.drop_eq_getElem_cons hlt, e]
      rw [hdr, goN_cons] at hg
      have t2 := et_t (ed_ninSg (K := K) (b := b) (σ := [some (.str x), some (.str sg), some (.int acc), some (.str ⟨#[c]⟩)]) (H := H3') (ed_var (i := 3) rfl (.str _)) (ed_var (i := 1) rfl (.str sg)))
      by_cases hm : c ∈ tl sg
      · rw [if_pos hm] at hg
        rw [decide_eq_true (show c ∈ sg.cps.toList from hm)] at t2
        refine g_ifF t2 fun H4 x4 => ?_
        have lsg := ed_len (K := K) (b := b) (σ := [some (.str x), some (.str sg), some (.int acc), some (V.str ⟨#[c]⟩)]) (H := H4) (d := .str sg) (ed_var (i := 1) rfl (.str sg)) (.inl rfl) fun y e => by cases e; exact Nat.le_trans (sg_len hsg) (by decide)
        have hb := sg_len hsg
        refine (ed_add (K := K) (b := b) (ed_mul (ed_var (i := 2) (d := .int acc) rfl (.int acc)) lsg (.inr ⟨by show -(2 ^ 64) < ((sg.length : Nat) : Int); omega, by show ((sg.length : Nat) : Int) < 2 ^ 64; omega⟩)) (ed_sidx (ed_var (i := 1) rfl (.str sg)) (ed_var (i := 3) rfl (.str _)) (sg_occ hsg hm))) H4 (Ex.refl H4) _ fun v5 H5 x5 hv5 => ?_
        have e5 := dq_int hv5
        subst e5
        refine ⟨_, _, rfl, x3.trans (x4.trans x5), ?_⟩
        show goN (tl sg) (acc * ((sg.length : Nat) : Int) + _) _ = _
        rw [len_tl' sg]
        exact hg
      · rw [if_neg hm] at hg
        rw [decide_eq_false (show ¬ c ∈ sg.cps.toList from hm)] at t2
        refine g_ifT t2 fun H4 x4 => ?_
        refine q _ H4 (x3.trans x4) ?_
        rw [hpl, ← hg]
        exact .non
    · intro σ' H3 ⟨acc, u, es, x3, hg⟩
      subst es
      refine ⟨_, rfl, q _ H3 x3 ?_⟩
      rw [hpl, ← hg]
      have : (tl x).drop x.cps.size = [] := List.drop_eq_nil_of_le (by
        show x.cps.toList.length ≤ _
        rw [Array.length_toList]
        exact Nat.le_refl _)
      rw [this]
      exact .int acc
  have eL : (tl x).length = x.length := (len_tl x).symm
  by_cases hr1 : 1 ≤ x.length ∧ x.length ≤ 40
  · have e : (!(decide ((1 : Int) ≤ (x.length : Nat)) && decide (((x.length : Nat) : Int) ≤ 40))) = false := by
      rw [decide_eq_true (by omega), decide_eq_true (by omega)]
      rfl
    rw [e] at t1
    obtain ⟨c, r, hcr⟩ : ∃ c r, tl x = c :: r := by
      cases e : tl x with
      | nil => rw [e] at eL; have : 0 = x.length := eL; omega
      | cons c r => exact ⟨c, r, rfl⟩
    have t2 := et_t (ed_eqS (K := K) (b := b) (σ := start NPl [.str x, .str sg]) (H := H) (ed_ixS (ed_var (i := 0) rfl (.str x)) (ed_int (i := 0)) hxl (show atI x.cps.toList 0 = some c by
      have : x.cps.toList = c :: r := hcr
      rw [this]
      exact atI_nat (j := 0) rfl)) (ed_str (x := "0")))
    have t3 := et_t (ed_neS (K := K) (b := b) (σ := start NPl [.str x, .str sg]) (H := H) (ed_var (i := 0) rfl (.str x)) (ed_str (x := "0")))
    have t23 := et_and t2 fun _ => t3
    have t := et_or t1 fun _ => t23
    have t0 : tl ("0" : Str) = [48] := by decide +kernel
    have es : (decide ((⟨#[c]⟩ : Str) = "0") && !decide (x = "0")) = ((tl x).head? == some 48 && !(tl x == [48])) := by
      have a1 : decide ((⟨#[c]⟩ : Str) = "0") = ((tl x).head? == some 48) := by
        rw [hcr]
        show _ = (some c == some 48)
        by_cases h : c = 48
        · subst h
          decide +kernel
        · have : ¬ (⟨#[c]⟩ : Str) = "0" := fun z => h (by
            have := (sgn_eq c "0").mp z
            rw [t0] at this
            injection this with this
            exact this.symm)
          rw [decide_eq_false this]
          exact (beq_eq_false_iff_ne.mpr fun z => h (Option.some.inj z)).symm
      have a2 : decide (x = "0") = (tl x == [48]) := by
        by_cases h : x = "0"
        · rw [decide_eq_true h, h, t0]
          rfl
        · rw [decide_eq_false h]
          exact (beq_eq_false_iff_ne.mpr fun z => h (ext_tl (z.trans t0.symm))).symm
      rw [a1, a2]
    have hpl : plN (tl sg) (tl x) = if ((tl x).head? == some 48 && !(tl x == [48])) = true then none else goN (tl sg) 0 (tl x) := by
      unfold plN
      rw [eL, decide_eq_true hr1.1, decide_eq_true hr1.2]
      rfl
    rw [es] at t
    cases hz : ((tl x).head? == some 48 && !(tl x == [48])) with
    | true =>
      rw [hz] at t hpl
      refine g_ifT t fun H1 x1 => q _ H1 x1 ?_
      rw [hpl]
      exact .non
    | false =>
      rw [hz] at t hpl
      exact g_ifF t fun H1 x1 => rest H1 x1 hpl
  · have e : (!(decide ((1 : Int) ≤ (x.length : Nat)) && decide (((x.length : Nat) : Int) ≤ 40))) = true := by
      by_cases h1 : 1 ≤ x.length
      · rw [decide_eq_true (by omega), decide_eq_false (by omega)]
        rfl
      · rw [decide_eq_false (by omega)]
        rfl
    rw [e] at t1
    have hpl : plN (tl sg) (tl x) = none := by
      unfold plN
      rw [eL]
      have : (decide (1 ≤ x.length) && decide (x.length ≤ 40)) = false := by
        by_cases h1 : 1 ≤ x.length
        · rw [decide_eq_true h1, decide_eq_false (by omega)]
          rfl
        · rw [decide_eq_false h1]
          rfl
      rw [this]
      rfl
    refine g_ifT (et_or (b := false) t1 fun h => nomatch h) fun H1 x1 => q _ H1 x1 ?_
    rw [hpl]
    exact .non
end
end Wr

set_option Elab.async false
set_option linter.all false
set_option maxRecDepth 100000
set_option maxHeartbeats 4000000
namespace Wr
open PySem PySem.Spec PyProof.Rows L2 Evl TL
theorem three_of {K : PySem.W.Frag} {H : Hp} {vs : List V} {ds : List PyData} (h : DdAll K H vs ds) (hl : ds.length = 3) : ∃ v v2 v3 d d2 d3, vs = [v, v2, v3] ∧ ds = [d, d2, d3] ∧ Dd K H v d ∧ Dd K H v2 d2 ∧ Dd K H v3 d3 := by
  match ds, hl, h with
  | [d, d2, d3], _, .cons a (.cons b (.cons c .nil)) => exact ⟨_, _, _, _, _, _, rfl, rfl, a, b, c⟩
theorem tl_cut (z : Str) (i : Nat) : tl (cutS z (some (i : Int)) none) = (tl z).drop i := by
  show (((z.cps.toList.drop (HT.sIx z.length 0 (some (i : Int)))).take (HT.sIx z.length z.length none - HT.sIx z.length 0 (some (i : Int)))).toArray).toList = z.cps.toList.drop i
  have e1 : HT.sIx z.length 0 (some (i : Int)) = min i z.length := by
    show (if (i : Int) < 0 then ((i : Int) + (z.length : Int)).toNat else min (i : Int).toNat z.length) = _
    rw [if_neg (by omega)]
    rfl
  have e2 : HT.sIx z.length z.length none = z.length := rfl
  have hl : z.cps.toList.length = z.length := Array.length_toList
  rw [e1, e2]
  show (z.cps.toList.drop (min i z.length)).take (z.length - min i z.length) = _
  rw [List.take_of_length_le (by rw [List.length_drop, hl]; exact Nat.le_refl _)]
  by_cases h : i ≤ z.length
  · rw [Nat.min_eq_left h]
  · rw [Nat.min_eq_right (by omega), List.drop_eq_nil_of_le (by omega), List.drop_eq_nil_of_le (by omega)]
def AhT (a s : Str) : Prop := (a = "" ∧ s = tenT) ∨ (a = "x" ∧ s = sixT)
theorem ah_sg {a s : Str} (h : AhT a s) : SgT s := by
  rcases h with ⟨_, h⟩ | ⟨_, h⟩
  · exact .inl h
  · exact .inr h
theorem tl_e : tl ("" : Str) = [] := by decide +kernel
theorem tl_x : tl ("x" : Str) = [120] := by decide +kernel
theorem tl_m : tl ("-" : Str) = [45] := by decide +kernel
theorem ah_starts {a s : Str} (h : AhT a s) (y : Str) : Txt.startswith y a = (tl a).isPrefixOf (tl y) := by
  rcases h with ⟨rfl, _⟩ | ⟨rfl, _⟩
  · rw [starts_nil, tl_e]
    simp
  · have e : ("x" : Str) = ⟨#[120]⟩ := by decide +kernel
    rw [tl_x, e, starts_one]
    cases tl y with
    | nil => rfl
    | cons c r =>
      show decide (some c = some 120) = ((120 == c) && ([] : List Nat).isPrefixOf r)
      by_cases hc : c = 120
      · subst hc
        simp
      · rw [decide_eq_false fun z => hc (Option.some.inj z), beq_eq_false_iff_ne.mpr (Ne.symm hc)]
        rfl
theorem ah_len {a s : Str} (h : AhT a s) : a.length ≤ 1 := by
  rcases h with ⟨rfl, _⟩ | ⟨rfl, _⟩ <;> decide +kernel
def SgPre (ds : List PyData) : Prop := ∃ x a s, ds = [.str x, .str a, .str s] ∧ AhT a s ∧ x.length ≤ 1000000
def sgF (ds : List PyData) : PyData := match ds with
  | [.str x, .str a, .str s] => optI (sgN (tl x) (tl a) (tl s))
  | _ => .none
theorem cut_le (z : Str) (i : Nat) : (cutS z (some (i : Int)) none).length ≤ z.length := cutS_length z _ _
section
variable {P : Program} {w : World} {K : PySem.W.Frag} {mg : Str → Option Value} {base : Heap} {f g g2 : Addr} {fd gd gd2 : FuncData} {tk tk2 : Tok}
theorem ok_signed (D : Def K mg "signed_number" s_signed ["text", "ahead", "signs"] f fd) (D1 : Def K mg "plain_number" s_plain ["figures", "signs"] g gd) (G1 : FnOk P w K mg base CX0 1 g gd ["figures", "signs"] (spP K PlPre plF)) (B : Blt mg) : FnOk P w K mg base CX0 2 f fd ["text", "ahead", "signs"] (spP K SgPre sgF) := by
  refine D.F.ok sc_signed (fun vs H Q E h => spP_len (fun _ ⟨_, _, _, e, _⟩ => by rw [e]; rfl) h) (fun cdv A outer s H vs Q E hr h => ?_)
  obtain ⟨b, ds, kn, hd, ⟨x, a, sg, rfl, hah, hx⟩, q⟩ := h
  obtain ⟨v, v2, v3, d, d2, d3, rfl, ed, h1, h2, h3⟩ := three_of hd rfl
  cases ed
  have e1 := dq_str h1
  have e2 := dq_str h2
  have e3 := dq_str h3
  subst e1 e2 e3
  refine ⟨_, pss_cons (ps_set (i := 3) sc_signed.nd rfl (Or.inl rfl) (pe_bm PySem.F.plainAttrs_str PySem.F.slot_str_startswith PySem.F.type_str_startswith mt_startsD (pv 0) (pa_cons pe_str pa_nil)))
    (pss_cons (ps_set (i := 4) sc_signed.nd rfl (Or.inl rfl) (pe_ifExp (pt_val (pv 3)) (pe_slice sl_str (pv 0) (po_some pe_int) po_none) (pv 0)))
    (pss_cons (ps_if (pt_not (pt_val (pe_bm PySem.F.plainAttrs_str PySem.F.slot_str_startswith PySem.F.type_str_startswith mt_startsD (pv 4) (pa_cons (pv 1) pa_nil)))) (pss_one (ps_ret pe_non)) pss_nil)
    (pss_cons (ps_set (i := 5) sc_signed.nd rfl (Or.inl rfl) (pe_cd D1 G1 hr (pa_cons (pe_slice sl_str (pv 4) (po_some (pe_callB call_lenD1 rfl B.len bb_len (pa_cons (pv 1) pa_nil))) po_none) (pa_cons (pv 2) pa_nil))))
    (pss_cons (ps_if (PW.pt (pw_or (pt_cmp (pc_isN (pv 5))) (pw_or1 (PW.pt (pw_and (pt_val (pv 3)) (pw_and1 (pt_cmpR op_eq (pv 5) pe_int (nomark _)))))))) (pss_one (ps_ret pe_non)) pss_nil)
    (pss_one (ps_ret (pe_ifExp (pt_val (pv 3)) (pe_un un_neg (pv 5)) (pv 5)))))))), ?_⟩
  have q : ∀ v H', Ex H H' → Dq K b H' v (optI (sgN (tl x) (tl a) (tl sg))) → Q v H' := q
  have hsl : sizeLine = 16777216 := sizeLine_eq
  have em : ("-" : Str) = ⟨#[45]⟩ := by decide +kernel
  refine g_set (ed_starts (K := K) (b := b) (σ := start NSg [.str x, .str a, .str sg]) (ed_var (i := 0) rfl (.str x)) (ed_str (x := "-"))) fun v3 H1 x1 hv3 => ?_
  have e3 := dq_bl hv3
  subst e3
  rw [em, starts_one]
  -- the figures
  have fig : ∃ y : Str, tl y = (if (tl x).head? = some 45 then (tl x).drop 1 else tl x) ∧ y.length ≤ 1000000 ∧ ED K b (tIf (tB (tVar 3)) (tSl rSlS (tVar 0) (tPart (tC (.int 1))) tNoPart) (tVar 0)) [some (.str x), some (.str a), some (.str sg), some (.bl (decide ((tl x).head? = some 45))), none, none] H1 (.str y) := by
    have tb := et_b (ed_var (K := K) (b := b) (σ := [some (.str x), some (.str a), some (.str sg), some (.bl (decide ((tl x).head? = some 45))), none, none]) (H := H1) (i := 3) (d := .bool (decide ((tl x).head? = some 45))) rfl (.bl _))
    have c1 : ED K b (tSl rSlS (tVar 0) (tPart (tC (.int 1))) tNoPart) [some (.str x), some (.str a), some (.str sg), some (.bl (decide ((tl x).head? = some 45))), none, none] H1 (.str (cutS x (some ((1 : Nat) : Int)) none)) := ed_slS (ed_var (i := 0) rfl (.str x)) (eo_some (K := K) (b := b) (ed_int (i := 1))) eo_none (by omega)
    by_cases hb : (tl x).head? = some 45
    · refine ⟨cutS x (some ((1 : Nat) : Int)) none, ?_, Nat.le_trans (cut_le x 1) hx, ?_⟩
      · rw [if_pos hb, tl_cut]
      · rw [decide_eq_true hb] at tb c1 ⊢
        exact ed_if (e := .none) tb (fun _ => c1) fun h => nomatch h
    · refine ⟨x, ?_, hx, ?_⟩
      · rw [if_neg hb]
      · rw [decide_eq_false hb] at tb ⊢
        exact ed_if (d := .none) tb (fun h => nomatch h) fun _ => ed_var (i := 0) rfl (.str x)
  obtain ⟨y, hy, hyl, ey⟩ := fig
  refine g_set ey fun v4 H2 x2 hv4 => ?_
  have e4 := dq_str hv4
  subst e4
  have x12 := x1.trans x2
  have ts := et_n (et_b (ed_starts (K := K) (b := b) (σ := [some (.str x), some (.str a), some (.str sg), some (.bl (decide ((tl x).head? = some 45))), some (.str y), none]) (H := H2) (ed_var (i := 4) rfl (.str y)) (ed_var (i := 1) rfl (.str a))))
  rw [ah_starts hah] at ts
  have hsg : sgN (tl x) (tl a) (tl sg) = if ((tl a).isPrefixOf (tl y)) = true then
    match plN (tl sg) ((tl y).drop (tl a).length) with
    | none => none
    | some n => if (tl x).head? = some 45 then (if n = 0 then none else some (-n)) else some n
    else none := by
    unfold sgN
    rw [← hy] <;> cases plN (tl sg) (List.drop (tl a).length (tl y)) <;> rfl
  cases hp : (tl a).isPrefixOf (tl y) with
  | false =>
    rw [hp] at ts hsg
    refine g_ifT ts fun H3 x3 => q _ H3 (x12.trans x3) ?_
    rw [hsg]
    exact .non
  | true =>
    rw [hp, if_pos rfl] at hsg
    rw [hp] at ts
    refine g_ifF ts fun H3 x3 => ?_
    have x13 := x12.trans x3
    have la : ED K b (tCB (rLen K) (tCons (tVar 1) tNil)) [some (.str x), some (.str a), some (.str sg), some (V.bl (decide ((tl x).head? = some 45))), some (.str y), none] H3 (.int (a.length : Nat)) := ed_len (d := .str a) (ed_var (i := 1) rfl (.str a)) (.inl rfl) fun z e => by cases e; exact Nat.le_trans (ah_len hah) (by decide)
    have cy : ED K b (tSl rSlS (tVar 4) (tPart (tCB (rLen K) (tCons (tVar 1) tNil))) tNoPart) [some (.str x), some (.str a), some (.str sg), some (V.bl (decide ((tl x).head? = some 45))), some (.str y), none] H3 (.str (cutS y (some ((a.length : Nat) : Int)) none)) := ed_slS (ed_var (i := 4) rfl (.str y)) (eo_some (K := K) (b := b) la) eo_none (by omega)
    have cl := ed_call (K := K) (b := b) (pre := PlPre) (f := plF) (E := E0) (kn.up x13) (ea_cons cy (ea_cons (ed_var (i := 2) rfl (.str sg)) ea_nil)) ⟨_, _, rfl, ah_sg hah, Nat.le_trans (cut_le y _) hyl⟩
    have cl := cl.to (e := optI (plN (tl sg) ((tl y).drop (tl a).length))) (by
      show optI (plN (tl sg) (tl (cutS y (some ((a.length : Nat) : Int)) none))) = _
      rw [tl_cut, len_tl a])
    refine g_set cl fun v5 H4 x4 hv5 => ?_
    have x14 := x13.trans x4
    have tN := et_b (ed_isN (K := K) (b := b) (σ := [some (.str x), some (.str a), some (.str sg), some (.bl (decide ((tl x).head? = some 45))), some (.str y), some v5]) (H := H4) (ed_var (i := 5) rfl hv5))
    have tb := et_b (ed_var (K := K) (b := b) (σ := [some (.str x), some (.str a), some (.str sg), some (.bl (decide ((tl x).head? = some 45))), some (.str y), some v5]) (H := H4) (i := 3) (d := .bool (decide ((tl x).head? = some 45))) rfl (.bl _))
    cases hn : plN (tl sg) ((tl y).drop (tl a).length) with
    | none =>
      rw [hn] at hsg tN
      refine g_ifT (et_or (b := false) tN fun h => nomatch h) fun H5 x5 => q _ H5 (x14.trans x5) ?_
      rw [hsg]
      exact .non
    | some n =>
      rw [hn] at hsg tN hv5
      have hsg : sgN (tl x) (tl a) (tl sg) = if (tl x).head? = some 45 then (if n = 0 then none else some (-n)) else some n := hsg
      have t0 := et_t (ed_eqI (K := K) (b := b) (σ := [some (.str x), some (.str a), some (.str sg), some (.bl (decide ((tl x).head? = some 45))), some (.str y), some v5]) (H := H4) (ed_var (i := 5) (d := .int n) rfl hv5) (ed_int (i := 0)))
      have tA := et_and tb fun _ => t0
      have tt := et_or tN fun _ => tA
      have vi : ∀ H5, Ex H4 H5 → ED K b (tVar 5) [some (.str x), some (.str a), some (.str sg), some (V.bl (decide ((tl x).head? = some 45))), some (.str y), some v5] H5 (.int n) := fun H5 x5 => ed_var (i := 5) rfl (Dq.up hv5 x5)
      by_cases hb : (tl x).head? = some 45
      · rw [if_pos hb] at hsg
        rw [decide_eq_true hb] at tt tb vi ⊢
        by_cases h0 : n = 0
        · rw [decide_eq_true h0] at tt
          rw [if_pos h0] at hsg
          refine g_ifT tt fun H5 x5 => q _ H5 (x14.trans x5) ?_
          rw [hsg]
          exact .non
        · rw [decide_eq_false h0] at tt
          rw [if_neg h0] at hsg
          refine g_ifF tt fun H5 x5 => ?_
          have tb5 := et_b (ed_var (K := K) (b := b) (σ := [some (.str x), some (.str a), some (.str sg), some (.bl true), some (.str y), some v5]) (H := H5) (i := 3) (d := .bool true) rfl (.bl _))
          refine (ed_if (K := K) (b := b) (e := .none) tb5 (fun _ => ed_neg (vi H5 x5)) fun h => nomatch h) H5 (Ex.refl H5) _ fun v6 H6 x6 hv6 => q _ H6 ((x14.trans x5).trans x6) ?_
          rw [hsg]
          exact hv6
      · rw [if_neg hb] at hsg
        rw [decide_eq_false hb] at tt tb vi ⊢
        refine g_ifF tt fun H5 x5 => ?_
        have tb5 := et_b (ed_var (K := K) (b := b) (σ := [some (.str x), some (.str a), some (.str sg), some (.bl false), some (.str y), some v5]) (H := H5) (i := 3) (d := .bool false) rfl (.bl _))
        refine (ed_if (K := K) (b := b) (d := .none) tb5 (fun h => nomatch h) fun _ => vi H5 x5) H5 (Ex.refl H5) _ fun v6 H6 x6 hv6 => q _ H6 ((x14.trans x5).trans x6) ?_
        rw [hsg]
        exact hv6
def TxPre (ds : List PyData) : Prop := ∃ x, ds = [.str x] ∧ x.length ≤ 1000000
def tensF (ds : List PyData) : PyData := match ds with
  | [.str x] => optI (tensN (tl x))
  | _ => .none
def bothF (ds : List PyData) : PyData := match ds with
  | [.str x] => optI (bothN (tl x))
  | _ => .none
theorem ok_tens (D : Def K mg "number_by_tens" s_tens ["text"] f fd) (D1 : Def K mg "signed_number" s_signed ["text", "ahead", "signs"] g gd) (G1 : FnOk P w K mg base CX0 2 g gd ["text", "ahead", "signs"] (spP K SgPre sgF)) (mT : mg "TENS" = some (.str tenT tk)) : FnOk P w K mg base CX0 3 f fd ["text"] (spP K TxPre tensF) := by
  refine D.F.ok sc_tens (fun vs H Q E h => spP_len (fun _ ⟨_, e, _⟩ => by rw [e]; rfl) h) (fun cdv A outer s H vs Q E hr h => ?_)
  obtain ⟨b, ds, kn, hd, ⟨x, rfl, hx⟩, q⟩ := h
  obtain ⟨v, d, rfl, ed, h1⟩ := one_of hd rfl
  cases ed
  refine ⟨_, pss_one (ps_ret (pe_cd D1 G1 hr (pa_cons (pv 0) (pa_cons pe_str (pa_cons (pe_gS mT) pa_nil))))), ?_⟩
  refine SR.fin (sr_ret ((ed_call (K := K) (b := b) (pre := SgPre) (f := sgF) kn (ea_cons (ed_var (i := 0) rfl h1) (ea_cons (ed_str (x := "")) (ea_cons (ed_c (.str tenT)) ea_nil))) ⟨_, _, _, rfl, .inl ⟨rfl, rfl⟩, hx⟩).to ?_)) q
  show optI (sgN (tl x) (tl "") (tl tenT)) = optI (tensN (tl x))
  rw [tl_e, tl_ten]
  rfl
theorem ok_both (D : Def K mg "number_by_tens_or_sixteens" s_both ["text"] f fd) (D1 : Def K mg "signed_number" s_signed ["text", "ahead", "signs"] g gd) (G1 : FnOk P w K mg base CX0 2 g gd ["text", "ahead", "signs"] (spP K SgPre sgF)) (D2 : Def K mg "number_by_tens" s_tens ["text"] g2 gd2) (G2 : FnOk P w K mg base CX0 3 g2 gd2 ["text"] (spP K TxPre tensF)) (mS : mg "SIXTEENS" = some (.str sixT tk)) : FnOk P w K mg base CX0 4 f fd ["text"] (spP K TxPre bothF) := by
  refine D.F.ok sc_both (fun vs H Q E h => spP_len (fun _ ⟨_, e, _⟩ => by rw [e]; rfl) h) (fun cdv A outer s H vs Q E hr h => ?_)
  obtain ⟨b, ds, kn, hd, ⟨x, rfl, hx⟩, q⟩ := h
  obtain ⟨v, d, rfl, ed, h1⟩ := one_of hd rfl
  cases ed
  refine ⟨_, pss_cons (ps_set (i := 1) sc_both.nd rfl (Or.inl rfl) (pe_cd D2 G2 hr (pa_cons (pv 0) pa_nil)))
    (pss_one (ps_ret (pe_ifExp (pt_cmp (pc_isN (pv 1))) (pe_cd D1 G1 (hr.mono (by decide)) (pa_cons (pv 0) (pa_cons pe_str (pa_cons (pe_gS mS) pa_nil)))) (pv 1)))), ?_⟩
  refine SR.fin ((sr_set (e := optI (tensN (tl x))) (d := optI (bothN (tl x))) (ed_call (K := K) (b := b) (pre := TxPre) (f := tensF) kn (ea_cons (ed_var (i := 0) rfl h1) ea_nil) ⟨_, rfl, hx⟩) fun v1 H1 x1 hv1 => ?_)) q
  have tN := et_b (ed_isN (K := K) (b := b) (σ := [some v, some v1]) (H := H1) (ed_var (i := 1) rfl hv1))
  refine sr_ret ?_
  unfold bothN
  cases hn : tensN (tl x) with
  | none =>
    rw [hn] at tN hv1
    refine (ed_if (e := .none) tN (fun _ => ed_call (K := K) (b := b) (pre := SgPre) (f := sgF) (kn.up x1) (ea_cons (ed_var (i := 0) rfl (Dq.up h1 x1)) (ea_cons (ed_str (x := "x")) (ea_cons (ed_c (.str sixT)) ea_nil))) ⟨_, _, _, rfl, .inr ⟨rfl, rfl⟩, hx⟩) fun h => nomatch h).to ?_
    show optI (sgN (tl x) (tl "x") (tl sixT)) = _
    rw [tl_x, tl_six]
  | some n =>
    rw [hn] at tN hv1
    exact ed_if (d := .none) tN (fun h => nomatch h) fun _ => ed_var (i := 1) rfl hv1
end
end Wr

set_option Elab.async false
set_option linter.all false
set_option maxRecDepth 100000
set_option maxHeartbeats 4000000
namespace Wr
open PySem PySem.Spec PyProof.Rows L2 Evl TL
abbrev s_rrow : Stmt := topS 51
abbrev s_numbered : Stmt := topS 50
abbrev s_heading : Stmt := topS 48
abbrev NRr : List Str := ["words", "word", "told", "number"]
theorem sc_rrow : FnScope NRr ["words"] (defScope s_rrow) := ⟨rfl, rfl, rfl, by decide +kernel, rfl, by decide +kernel, by decide +kernel⟩
theorem sc_numbered : FnScope ["word", "at"] ["word", "at"] (defScope s_numbered) := ⟨rfl, rfl, rfl, by decide +kernel, rfl, by decide +kernel, by decide +kernel⟩
abbrev NHd : List Str := ["words", "word"]
theorem sc_heading : FnScope NHd ["words"] (defScope s_heading) := ⟨rfl, rfl, rfl, by decide +kernel, rfl, by decide +kernel, by decide +kernel⟩
def rwO : Option Rw → PyData
  | none => .none
  | some r => r.d
/-- words that can be looked at -/
def WdOk (w : Str) : Prop := PyData.strOk w = true ∧ w.length ≤ 1000
theorem WdOk.ok {w : Str} (h : WdOk w) {n : Nat} : okD n (.str w) = true := by
  have e : (PyData.strOk w && decide (w.length ≤ 1000)) = true := by
    rw [h.1, decide_eq_true h.2]
    rfl
  cases n <;> exact e
theorem WdOk.sh {w : Str} (h : WdOk w) : SeqAt.shaped (.str w) = true := sh_str h.1
def RrPre (ds : List PyData) : Prop := ∃ ws : List Str, ds = [.list (ws.map .str)] ∧ ∀ w ∈ ws, WdOk w
def strL (d : PyData) : List Str := match d with
  | .list ds => strsOf ds
  | _ => []
def rrF (ds : List PyData) : PyData := rwO (readRow (strL (ds.headD .none)))
theorem sz1 {x : PyData} (h : 1 ≤ sizeLine) : [x].length ≤ sizeLine := h
theorem sz2 {x y : PyData} (h : 2 ≤ sizeLine) : [x, y].length ≤ sizeLine := h
theorem sz3 {x y z : PyData} (h : 3 ≤ sizeLine) : [x, y, z].length ≤ sizeLine := h
theorem or_dec {p q : Prop} [Decidable p] [Decidable q] [Decidable (p ∨ q)] : (decide p || decide q) = decide (p ∨ q) := by
  by_cases h : p
  · rw [decide_eq_true h, decide_eq_true (p := p ∨ q) (.inl h)]
    rfl
  · rw [decide_eq_false h, Bool.false_or]
    by_cases h' : q
    · rw [decide_eq_true h', decide_eq_true (p := p ∨ q) (.inr h')]
    · rw [decide_eq_false h', decide_eq_false (p := p ∨ q) (by rintro (z | z); exact h z; exact h' z)]
section
variable {K : PySem.W.Frag} {b : List Addr} {σ : L2.St} {H H' : Hp} {ta tb te : TE} {tt : TT} {ts : TS} {d a c e : PyData} {ds : List PyData}
theorem sr_unpack2L {i j : Nat} (h : ED K b te σ H (.list [a, c])) (kk : ∀ v1 v2 H', Ex H H' → Dq K b H' v1 a → Dq K b H' v2 c → SR K b ts ((σ.set i (some v1)).set j (some v2)) H' d) :
    SR K b (tSeq (tAsg te (gLst K 2 (gCons (gName i) (gCons (gName j) gNil)))) ts) σ H d := fun H1 x1 D q =>
  h H1 x1 _ fun v H2 x2 hv => by
    cases hv with
    | lst h1 h2 =>
      cases h2 with
      | cons p1 p2 =>
        cases p2 with
        | cons p3 p4 =>
          cases p4
          exact ⟨_, _, rfl, ex_l hid_le h1, rfl, _, _, rfl, _, _, rfl, rfl, kk _ _ H2 (x1.trans x2) p1 p3 H2 (Ex.refl H2) D fun z H4 x4 hz => q _ H4 (x2.trans x4) hz⟩
/-- if .. elif .. : a choice that goes on behind it -/
theorem sr_ifN {c : Bool} {t1 t2 : TS} {e1 : PyData} (hc : EvT tt σ H c) (h1 : c = true → SR K b (tSeq t1 ts) σ H d) (h2 : c = false → SR K b (tSeq t2 ts) σ H d) : SR K b (tSeq (tIfS tt t1 t2) ts) σ H d := fun H1 x1 D q =>
  hc H1 x1 _ fun H2 x2 => by
    cases c with
    | true =>
      rw [if_pos rfl]
      exact h1 rfl H2 (x1.trans x2) D fun z H4 x4 hz => q _ H4 (x2.trans x4) hz
    | false =>
      rw [if_neg Bool.false_ne_true]
      exact h2 rfl H2 (x1.trans x2) D fun z H4 x4 hz => q _ H4 (x2.trans x4) hz
end
section
variable {P : Program} {w : World} {K : PySem.W.Frag} {mg : Str → Option Value} {base : Heap} {f g g2 g3 aN aR aL : Addr} {fd gd gd2 gd3 : FuncData} {tk tk2 : Tok}
theorem ok_rrow (D : Def K mg "read_row" s_rrow ["words"] f fd) (D1 : Def K mg "is_name" s_is_name ["thing"] g gd) (G1 : FnOk P w K mg base CX0 1 g gd ["thing"] (spP K (fun ds => ds.length = 1 ∧ ∀ d, ds = [d] → okD 30 d = true) (F1 nameD)))
    (D2 : Def K mg "number_by_tens" s_tens ["text"] g2 gd2) (G2 : FnOk P w K mg base CX0 3 g2 gd2 ["text"] (spP K TxPre tensF)) (D3 : Def K mg "number_by_tens_or_sixteens" s_both ["text"] g3 gd3) (G3 : FnOk P w K mg base CX0 4 g3 gd3 ["text"] (spP K TxPre bothF))
    (B : Blt mg) (W : Words K mg aN aR aL) : FnOk P w K mg base CX0 5 f fd ["words"] (spP K RrPre rrF) := by
  refine D.F.ok sc_rrow (fun vs H Q E h => spP_len (fun _ ⟨_, e, _⟩ => by rw [e]; rfl) h) (fun cdv A outer s H vs Q E hr h => ?_)
  obtain ⟨b, ds, kn, hd, ⟨ws, rfl, hws⟩, q⟩ := h
  obtain ⟨v, d, rfl, ed, h1⟩ := one_of hd rfl
  cases ed
  refine ⟨_, pss_cons (ps_if (pt_cmpR op_eq (pe_callB call_lenD1 rfl B.len bb_len (pa_cons (pv 0) pa_nil)) pe_int (nomark _)) (pss_one (ps_ret (pe_ifExp (pt_cmpR (op_inT (hu65 hr)) (pe_ix ix_list (pv 0) pe_int (fun _ _ => rfl)) (pe_gR W.mL) rfl) (pe_tupF (pa_cons (pe_ix ix_list (pv 0) pe_int (fun _ _ => rfl)) pa_nil)) pe_non))) pss_nil)
    (pss_cons (ps_if (pt_cmpR op_ne (pe_callB call_lenD1 rfl B.len bb_len (pa_cons (pv 0) pa_nil)) pe_int (nomark _)) (pss_one (ps_ret pe_non)) pss_nil)
    (pss_cons (ps_asg (pv 0) (pg_lst rfl (pgs_cons (pg_name (i := 1) sc_rrow.nd rfl (Or.inl rfl)) (pgs_cons (pg_name (i := 2) sc_rrow.nd rfl (Or.inl rfl)) pgs_nil))))
    (pss_cons (ps_if (PW.pt (pw_or (pt_cmpR op_eq (pv 1) pe_str (nomark _)) (pw_or1 (pt_cmpR (op_inT (hu65 hr)) (pv 1) (pe_gR W.mN) rfl)))) (pss_one (ps_ret (pe_ifExp (pt_val (pe_cd D1 G1 (hr.mono (by decide)) (pa_cons (pv 2) pa_nil))) (pe_tupF (pa_cons (pv 1) (pa_cons (pv 2) pa_nil))) pe_non))) pss_nil)
    (pss_cons (ps_set (i := 3) sc_rrow.nd rfl (Or.inl rfl) pe_non)
    (pss_cons (ps_if (pt_cmpR op_eq (pv 1) pe_str (nomark _)) (pss_one (ps_set (i := 3) sc_rrow.nd rfl (Or.inl rfl) (pe_cd D3 G3 hr (pa_cons (pv 2) pa_nil))))
      (pss_one (ps_if (pt_cmpR (op_inT (hu65 hr)) (pv 1) (pe_gR W.mR) rfl) (pss_cons (ps_set (i := 3) sc_rrow.nd rfl (Or.inl rfl) (pe_cd D2 G2 (hr.mono (by decide)) (pa_cons (pv 2) pa_nil)))
        (pss_one (ps_if (PW.pt (pw_and (pt_cmp (pc_notN (pv 3))) (pw_and1 (pt_cmpR op_lt (pv 3) pe_int (nomark _))))) (pss_one (ps_ret pe_non)) pss_nil))) pss_nil)))
    (pss_one (ps_ret (pe_ifExp (pt_cmp (pc_isN (pv 3))) pe_non (pe_tupF (pa_cons (pv 1) (pa_cons (pv 3) pa_nil))))))))))), ?_⟩
  have q : ∀ v H', Ex H H' → Dq K b H' v (rwO (readRow (strsOf (ws.map .str)))) → Q v H' := q
  rw [strsOf_map] at q
  have hlen : ∀ {σ' H'}, Ex H H' → σ'[0]? = some (some v) → ED K b (tCB (rLen K) (tCons (tVar 0) tNil)) σ' H' (.int (ws.length : Nat)) := fun {σ' H'} x hs => (ed_len (d := .list (ws.map .str)) (ed_var hs (Dq.up h1 x)) (.inr (.inl rfl)) fun y e => by cases e).to (by
    show PyData.int (((ws.map PyData.str).length : Nat)) = _
    rw [List.length_map])
  have t1 := et_t (ed_eqI (K := K) (b := b) (σ := start NRr [v]) (H := H) (hlen (Ex.refl H) rfl) (ed_int (i := 1)))
  have t2 := et_t (ed_neI (K := K) (b := b) (σ := start NRr [v]) (H := H) (hlen (Ex.refl H) rfl) (ed_int (i := 2)))
  match ws, hws, h1, t1, t2, q with
  | [w1], hws, h1, t1, t2, q =>
    rw [decide_eq_true (show (([w1].length : Nat) : Int) = 1 from rfl)] at t1
    have ow := hws w1 (by simp)
    have i0 := ed_ixL (K := K) (b := b) (σ := start NRr [v]) (H := H) (ed_var (i := 0) rfl h1) (ed_int (i := 0)) (show atI [PyData.str w1] 0 = some (.str w1) from atI_nat (j := 0) rfl)
    refine SR.fin ((sr_if (e := .none) t1 (fun _ => sr_ret (ed_if (et_t (ed_inT i0 (ed_words W.kL) ow.sh sh_lone)) (fun _ => ed_tup kn (ea_cons i0 ea_nil) (sz1 (by decide))) fun _ => ed_non)) fun h => nomatch h).to ?_) q
    show (if inD (.str w1) (loneW.map .str) = true then PyData.tuple [.str w1] else .none) = rwO (if w1 ∈ loneW then some (.lone w1) else none)
    rw [inD_str]
    by_cases h : w1 ∈ loneW
    · rw [if_pos h, decide_eq_true h]
      rfl
    · rw [if_neg h, decide_eq_false h]
      rfl
  | [w1, t], hws, h1, t1, t2, q =>
    rw [decide_eq_false (show ¬ (([w1, t].length : Nat) : Int) = 1 by show ¬ ((2 : Nat) : Int) = 1; decide)] at t1
    rw [decide_eq_true (show (([w1, t].length : Nat) : Int) = 2 from rfl)] at t2
    have o1 := hws w1 (by simp)
    have o2 := hws t (by simp)
    refine SR.fin ((sr_if (d := .none) t1 (fun h => nomatch h) fun _ => sr_if (d := .none) t2 (fun h => nomatch h) fun _ => sr_unpack2L (d := rwO (readRow [w1, t])) (ed_var (i := 0) rfl h1) fun v1 v2 H1 x1 p1 p2 => ?_)) q
    have kn1 := kn.up x1
    have tc := et_t (ed_eqS (K := K) (b := b) (σ := [some v, some v1, some v2, none]) (H := H1) (ed_var (i := 1) rfl p1) (ed_str (x := "call")))
    have tn := et_t (ed_inT (K := K) (b := b) (σ := [some v, some v1, some v2, none]) (H := H1) (ed_var (i := 1) rfl p1) (ed_words W.kN) o1.sh sh_nameW)
    rw [inD_str] at tn
    have tcn := et_or tc fun _ => tn
    have eo : (decide (w1 = "call") || decide (w1 ∈ nameW)) = decide (w1 = "call" ∨ w1 ∈ nameW) := or_dec
    rw [eo] at tcn
    show SR K b _ _ _ (rwO (if w1 = "call" ∨ w1 ∈ nameW then (if nameS t = true then some (Rw.nm w1 t) else none)
      else if w1 = "put" then (bothN (tl t)).map (.num w1) else if w1 ∈ rowW then (match tensN (tl t) with | some n => if n < 0 then none else some (.num w1 n) | none => none) else none))
    by_cases hcn : w1 = "call" ∨ w1 ∈ nameW
    · rw [if_pos hcn]
      rw [decide_eq_true hcn] at tcn
      have cl := ed_call (K := K) (b := b) (σ := [some v, some v1, some v2, none]) (pre := fun ds => ds.length = 1 ∧ ∀ d, ds = [d] → okD 30 d = true) (f := F1 nameD) (E := E0) kn1 (ea_cons (ed_var (i := 2) rfl p2) ea_nil) ⟨rfl, fun e h' => by cases h'; exact o2.ok⟩
      have cl : ED K b _ _ H1 (.bool (nameS t)) := cl
      refine (sr_if (e := .none) tcn (fun _ => sr_ret (ed_if (et_b cl) (fun _ => ed_tup kn1 (ea_cons (ed_var (i := 1) rfl p1) (ea_cons (ed_var (i := 2) rfl p2) ea_nil)) (sz2 (by decide))) fun _ => ed_non)) fun h => nomatch h).to ?_
      show (if nameS t = true then PyData.tuple [.str w1, .str t] else .none) = _
      cases nameS t <;> rfl
    · rw [if_neg hcn]
      rw [decide_eq_false hcn] at tcn
      refine (sr_if (d := .none) tcn (fun h => nomatch h) fun _ => sr_set (e := .none) (d := rwO (if w1 = "put" then (bothN (tl t)).map (.num w1) else if w1 ∈ rowW then (match tensN (tl t) with | some n => if n < 0 then none else some (.num w1 n) | none => none) else none)) ed_non fun v3 H2 x2 hv3 => ?_)
      have e3 : v3 = V.non := by cases hv3; rfl
      subst e3
      have x12 := x1.trans x2
      have kn2 := kn.up x12
      have p1' := Dq.up p1 x2
      have p2' := Dq.up p2 x2
      have tp := et_t (ed_eqS (K := K) (b := b) (σ := [some v, some v1, some v2, some .non]) (H := H2) (ed_var (i := 1) rfl p1') (ed_str (x := "put")))
      -- the end
      have fin : ∀ (o : Option Int) (v4 : V) (H3 : Hp), Ex H2 H3 → Dq K b H3 v4 (optI o) → SR K b (tRet (tIf (tB (tIsN (tVar 3))) (tC .non) (tTupF (tCons (tVar 1) (tCons (tVar 3) tNil))))) [some v, some v1, some v2, some v4] H3 (rwO (o.map (.num w1))) := fun o v4 H3 x3 hv4 => by
        have tN := et_b (ed_isN (K := K) (b := b) (σ := [some v, some v1, some v2, some v4]) (H := H3) (ed_var (i := 3) rfl hv4))
        cases o with
        | none => exact sr_ret (ed_if (e := .none) tN (fun _ => ed_non) fun h => nomatch h)
        | some n => exact sr_ret (ed_if (d := .none) tN (fun h => nomatch h) fun _ => ed_tup (kn2.up x3) (ea_cons (ed_var (i := 1) rfl (Dq.up p1' x3)) (ea_cons (ed_var (i := 3) rfl hv4) ea_nil)) (sz2 (by decide)))
      by_cases hp : w1 = "put"
      · rw [if_pos hp]
        rw [decide_eq_true hp] at tp
        refine sr_ifN (e1 := .none) tp (fun _ => sr_set (e := optI (bothN (tl t))) (ed_call (K := K) (b := b) (pre := TxPre) (f := bothF) kn2 (ea_cons (ed_var (i := 2) rfl p2') ea_nil) ⟨t, rfl, by have := o2.2; omega⟩) fun v4 H3 x3 hv4 => fin _ _ H3 x3 hv4) fun h => nomatch h
      · rw [if_neg hp]
        rw [decide_eq_false hp] at tp
        have tr := et_t (ed_inT (K := K) (b := b) (σ := [some v, some v1, some v2, some .non]) (H := H2) (ed_var (i := 1) rfl p1') (ed_words W.kR) o1.sh sh_rowW)
        rw [inD_str] at tr
        by_cases hw : w1 ∈ rowW
        · rw [if_pos hw]
          rw [decide_eq_true hw] at tr
          refine sr_ifN (e1 := .none) tp (fun h => nomatch h) fun _ => fun H3 x3 D q' => ?_
          refine tr H3 x3 _ fun H4 x4 => ?_
          rw [if_pos rfl]
          have x34 := x3.trans x4
          refine g_set (ed_call (K := K) (b := b) (pre := TxPre) (f := tensF) (kn2.up x34) (ea_cons (ed_var (i := 2) rfl (Dq.up p2' x34)) ea_nil) ⟨t, rfl, by have := o2.2; omega⟩) fun v4 H5 x5 hv4 => ?_
          have hv4 : Dq K b H5 v4 (optI (tensN (tl t))) := hv4
          have x35 := x34.trans x5
          have x45 := x4.trans x5
          have tN := et_b (ed_notN (K := K) (b := b) (σ := [some v, some v1, some v2, some v4]) (H := H5) (ed_var (i := 3) rfl hv4))
          cases hn : tensN (tl t) with
          | none =>
            rw [hn] at hv4 tN q'
            have tA := et_and (b := false) (u := tTest (tOp (rI0 fun i j => .bl (decide (i < j))) (tVar 3) (tC (.int 0)))) tN (fun h => nomatch h)
            refine tA H5 (Ex.refl H5) _ fun H6 x6 => ?_
            show (if false = true then _ else _)
            rw [if_neg Bool.false_ne_true]
            exact fin none v4 H6 (x35.trans x6) (Dq.up hv4 x6) H6 (Ex.refl H6) D fun z H7 x7 hz => q' z H7 ((x45.trans x6).trans x7) hz
          | some n =>
            rw [hn] at hv4 tN q'
            have tA := et_and tN fun _ => et_t (ed_lt (K := K) (b := b) (ed_var (i := 3) (d := .int n) rfl hv4) (ed_int (i := 0)))
            refine tA H5 (Ex.refl H5) _ fun H6 x6 => ?_
            by_cases hz : n < 0
            · have e : (true && decide (n < 0)) = true := by rw [decide_eq_true hz]; rfl
              have q' : ∀ z H2, Ex H3 H2 → Dq K b H2 z (rwO (if n < 0 then none else some (.num w1 n))) → D.rt z H2 := q'
              rw [if_pos hz] at q'
              show (if (true && decide (n < 0)) = true then _ else _)
              rw [e, if_pos rfl]
              exact q' _ H6 (x45.trans x6) .non
            · have e : (true && decide (n < 0)) = false := by rw [decide_eq_false hz]; rfl
              have q' : ∀ z H2, Ex H3 H2 → Dq K b H2 z (rwO (if n < 0 then none else some (.num w1 n))) → D.rt z H2 := q'
              rw [if_neg hz] at q'
              show (if (true && decide (n < 0)) = true then _ else _)
              rw [e, if_neg Bool.false_ne_true]
              exact fin (some n) v4 H6 (x35.trans x6) (Dq.up hv4 x6) H6 (Ex.refl H6) D fun z H7 x7 hz' => q' z H7 ((x45.trans x6).trans x7) hz'
        · rw [if_neg hw]
          rw [decide_eq_false hw] at tr
          refine sr_ifN (e1 := .none) tp (fun h => nomatch h) fun _ => fun H3 x3 D q' => ?_
          refine tr H3 x3 _ fun H4 x4 => ?_
          rw [if_neg Bool.false_ne_true]
          exact fin none .non H4 (x3.trans x4) .non H4 (Ex.refl H4) D fun z H7 x7 hz => q' z H7 (x4.trans x7) hz
  | [], hws, h1, t1, t2, q =>
    rw [decide_eq_false (show ¬ ((([] : List Str).length : Nat) : Int) = 1 by show ¬ ((0 : Nat) : Int) = 1; decide)] at t1
    rw [decide_eq_false (show ¬ ((([] : List Str).length : Nat) : Int) = 2 by show ¬ ((0 : Nat) : Int) = 2; decide)] at t2
    exact SR.fin (sr_if (d := .none) t1 (fun h => nomatch h) fun _ => sr_if (e := .none) t2 (fun _ => sr_ret ed_non) fun h => nomatch h) q
  | w1 :: w2 :: w3 :: r, hws, h1, t1, t2, q =>
    rw [decide_eq_false (show ¬ (((w1 :: w2 :: w3 :: r).length : Nat) : Int) = 1 by rw [List.length_cons, List.length_cons, List.length_cons]; omega)] at t1
    rw [decide_eq_false (show ¬ (((w1 :: w2 :: w3 :: r).length : Nat) : Int) = 2 by rw [List.length_cons, List.length_cons, List.length_cons]; omega)] at t2
    exact SR.fin (sr_if (d := .none) t1 (fun h => nomatch h) fun _ => sr_if (e := .none) t2 (fun _ => sr_ret ed_non) fun h => nomatch h) q
end
end Wr

set_option Elab.async false
set_option linter.all false
set_option maxRecDepth 100000
set_option maxHeartbeats 4000000
namespace Wr
open PySem PySem.Spec PyProof.Rows L2 Evl TL
abbrev s_hasrows : Stmt := topS 49
theorem sc_hasrows : FnScope ["parts"] ["parts"] (defScope s_hasrows) := ⟨rfl, rfl, rfl, by decide +kernel, rfl, by decide +kernel, by decide +kernel⟩
def NbPre (ds : List PyData) : Prop := ∃ (w : Str) (n : Nat), ds = [.str w, .int (n : Nat)]
def nbF (ds : List PyData) : PyData := match ds with
  | [.str w, .int i] => .bool (decide (i.toNat < 100) && decide (w = twoS i.toNat))
  | _ => .none
def HdPre (ds : List PyData) : Prop := ∃ ws : List Str, ds = [.list (ws.map .str)] ∧ ws ≠ [] ∧ ws.length ≤ 1000 ∧ ∀ w ∈ ws, WdOk w
def hdF (ds : List PyData) : PyData := .bool (isHead (strL (ds.headD .none)))
section
variable {K : PySem.W.Frag} {b : List Addr} {σ : L2.St} {H H' : Hp} {ta tb te : TE} {tt : TT} {ts : TS} {d a c e : PyData} {ds : List PyData}
theorem ed_slL {tl th : TO} {lo hi : Option Int} (kn : Kn b H) (ha : ED K b ta σ H (.list ds)) (h1 : EO tl σ H lo) (h2 : EO th σ H hi) : ED K b (tSl (rSlL K) ta tl th) σ H (.list (cutD ds lo hi)) := fun H1 x1 Q q =>
  ha H1 x1 _ fun x H2 x2 hx => h1 H2 (x1.trans x2) _ fun H3 x3 => h2 H3 ((x1.trans x2).trans x3) _ fun H4 x4 => by
    have hx4 := (hx.up x3).up x4
    cases hx4 with
    | lst g1 g2 =>
      have kn4 := kn.up (((x1.trans x2).trans x3).trans x4)
      exact ⟨_, _, rfl, ex_l hid_le g1, fun p hp => q _ _ (((x2.trans x3).trans x4).trans (Ex.new hp)) (.lst (.inl (.inl (hid_new (kn4.new hp)))) (DqAll.up (cut_dps g2 lo hi) (Ex.new hp)))⟩
end
theorem cut_from (ds : List PyData) (i : Nat) : cutD ds (some (i : Int)) none = ds.drop i := by
  unfold cutD
  have e1 : HT.sIx ds.length 0 (some (i : Int)) = min i ds.length := by
    show (if (i : Int) < 0 then ((i : Int) + (ds.length : Int)).toNat else min (i : Int).toNat ds.length) = _
    rw [if_neg (by omega)]
    rfl
  have e2 : HT.sIx ds.length ds.length none = ds.length := rfl
  rw [e1, e2, List.take_of_length_le (by rw [List.length_drop]; exact Nat.le_refl _)]
  by_cases h : i ≤ ds.length
  · rw [Nat.min_eq_left h]
  · rw [Nat.min_eq_right (by omega), List.drop_eq_nil_of_le (by omega), List.drop_eq_nil_of_le (by omega)]
/-! ### the parts read so far -/
theorem hid_upd {b : List Addr} {H : Hp} {x : Addr} {o : HO} (h : x ∈ b) : hid b (upd H x o) = hid b H := by
  funext c
  unfold hid
  by_cases hc : c ∈ b
  · rw [if_pos hc, if_pos hc]
  · rw [if_neg hc, if_neg hc, upd_ne (fun (z : c = x) => hc (by rw [z]; exact h))]
def Cell (K : PySem.W.Frag) (b : List Addr) (H : Hp) (c : Addr × Addr) (p : Pt) : Prop := ∃ v2 us, SqT K (hid b H) c.1 [.str p.name, v2, .ref c.2] ∧ Dq K b H v2 (.tuple (p.names.map .str)) ∧ H c.2 = some (.lst us) ∧ DqAll K b H us (p.rows.map Rw.d)
structure PartsI (K : PySem.W.Frag) (b : List Addr) (H : Hp) (A : Addr) (cs : List (Addr × Addr)) (st : List Pt) : Prop where
  kn : Kn b H
  a : H A = some (.lst (cs.map fun c => .ref c.1))
  ab : A ∈ b
  lb : ∀ c ∈ cs, c.2 ∈ b
  nd : (cs.map (·.2)).Nodup
  an : ∀ c ∈ cs, c.2 ≠ A
  len : cs.length = st.length
  cell : ∀ (i : Nat) (c : Addr × Addr) (p : Pt), cs[i]? = some c → st[i]? = some p → Cell K b H c p
theorem PartsI.up {K : PySem.W.Frag} {b : List Addr} {H H' : Hp} {A : Addr} {cs : List (Addr × Addr)} {st : List Pt} (h : PartsI K b H A cs st) (x : Ex H H') : PartsI K b H' A cs st :=
  ⟨h.kn.up x, x _ _ h.a, h.ab, h.lb, h.nd, h.an, h.len, fun i c p hc hp => by
    obtain ⟨v2, us, g1, g2, g3, g4⟩ := h.cell i c p hc hp
    exact ⟨v2, us, ex_t (hid_ex x) g1, Dq.up g2 x, x _ _ g3, DqAll.up g4 x⟩⟩
theorem atI_neg1 (xs : List V) (v : V) : atI (xs ++ [v]) (-1) = some v := by
  have h : ixN (xs ++ [v]).length (-1) = some xs.length := by
    rw [List.length_append, List.length_singleton]
    unfold ixN
    simp
    try omega
  unfold atI
  rw [h]
  simp
/-- the last part -/
theorem PartsI.last {K : PySem.W.Frag} {b : List Addr} {H : Hp} {A : Addr} {cs : List (Addr × Addr)} {st : List Pt} {p : Pt} (h : PartsI K b H A cs (st ++ [p])) : ∃ cs0 c, cs = cs0 ++ [c] ∧ cs0.length = st.length ∧ Cell K b H c p := by
  have hl := h.len
  rw [List.length_append, List.length_singleton] at hl
  have hne : cs ≠ [] := fun e => by rw [e] at hl; cases hl
  refine ⟨cs.dropLast, cs.getLast hne, (List.dropLast_concat_getLast hne).symm, by rw [List.length_dropLast]; omega, ?_⟩
  refine h.cell st.length _ p ?_ (by simp)
  rw [List.getLast_eq_getElem, ← List.getElem?_eq_getElem]
  congr 1
  omega
def spHas (K : PySem.W.Frag) : Sp := fun vs H Q _ => ∃ A b cs st, vs = [.ref A] ∧ PartsI K b H A cs st ∧ ∀ H', Ex H H' → Q (.bl (hasRows st)) H'
section
variable {P : Program} {w : World} {K : PySem.W.Frag} {mg : Str → Option Value} {base : Heap} {f g g2 g3 aN aR aL : Addr} {fd gd gd2 gd3 : FuncData} {tk tk2 : Tok}
theorem ok_numbered (D : Def K mg "is_numbered" s_numbered ["word", "at"] f fd) (mN : mg "MOST_NUMBERED" = some (.int 100 tk)) : FnOk P w K mg base CX0 1 f fd ["word", "at"] (spP K NbPre nbF) := by
  refine D.F.ok sc_numbered (fun vs H Q E h => spP_len (fun _ ⟨_, _, e⟩ => by rw [e]; rfl) h) (fun cdv A outer s H vs Q E hr h => ?_)
  obtain ⟨b, ds, kn, hd, ⟨x, n, rfl⟩, q⟩ := h
  obtain ⟨v, v2, d, d2, rfl, ed, h1, h2⟩ := two_of hd rfl
  cases ed
  refine ⟨_, pss_one (ps_ret (pe_and (pe_cmpR op_lt (pv 1) (pe_gI mN) (nomark _)) (pe_one (pe_cmpR op_eq (pv 0) (pe_joined1 (pe_fmt2 (pv 1))) (nomark _))))), ?_⟩
  have q : ∀ v H', Ex H H' → Dq K b H' v (.bool (decide (((n : Nat) : Int).toNat < 100) && decide (x = twoS ((n : Nat) : Int).toNat))) → Q v H' := q
  have en : ((n : Nat) : Int).toNat = n := rfl
  rw [en] at q
  refine SR.fin (sr_ret ((ed_andB (c := decide (((n : Nat) : Int) < 100)) (k := decide (x = twoS n)) (ed_lt (ed_var (i := 1) rfl h2) (ed_c (.int 100))) fun hc => ed_eqS (ed_var (i := 0) rfl h1) (ed_fmt2 (ed_var (i := 1) rfl h2) (by have := of_decide_eq_true hc; omega))).to ?_)) q
  have e : decide (((n : Nat) : Int) < 100) = decide (n < 100) := by
    by_cases h : n < 100
    · rw [decide_eq_true h, decide_eq_true (by omega)]
    · rw [decide_eq_false h, decide_eq_false (by omega)]
  rw [e]
theorem ok_heading (D : Def K mg "is_heading" s_heading ["words"] f fd) (D1 : Def K mg "is_name" s_is_name ["thing"] g gd) (G1 : FnOk P w K mg base CX0 1 g gd ["thing"] (spP K (fun ds => ds.length = 1 ∧ ∀ d, ds = [d] → okD 30 d = true) (F1 nameD))) (B : Blt mg) : FnOk P w K mg base CX0 2 f fd ["words"] (spP K HdPre hdF) := by
  refine D.F.ok sc_heading (fun vs H Q E h => spP_len (fun _ ⟨_, e, _⟩ => by rw [e]; rfl) h) (fun cdv A outer s H vs Q E hr h => ?_)
  obtain ⟨b, ds, kn, hd, ⟨ws, rfl, hne, hl, hws⟩, q⟩ := h
  obtain ⟨v, d, rfl, ed, h1⟩ := one_of hd rfl
  cases ed
  refine ⟨_, pss_one (ps_ret (pe_and (pe_cmpR op_eq (pe_ix ix_list (pv 0) pe_int (fun _ _ => rfl)) pe_str (nomark _)) (pe_and (pe_cmpR op_gt (pe_callB call_lenD1 rfl B.len bb_len (pa_cons (pv 0) pa_nil)) pe_int (nomark _))
    (pe_one (pe_callB (cr_all rfl) rfl B.all bb_all (pa_cons (pe_lc (own := [("word", 1)]) (g := gName 1) (tt := tYes) rfl sc_heading.nd (pi_list (pe_slice sl_list (pv 0) (po_some pe_int) po_none)) (blkOk_by (N := NHd) (sc := defScope s_heading) (by decide +kernel)) (fun _ _ _ _ _ => pg_name (i := 1) sc_heading.nd rfl (Or.inl rfl)) (fun _ _ _ _ _ => pts_nil)
      (fun _ _ _ _ _ => pe_cd D1 G1 hr (pa_cons (pv 1) pa_nil))) pa_nil)))))), ?_⟩
  have q : ∀ v H', Ex H H' → Dq K b H' v (.bool (isHead (strsOf (ws.map .str)))) → Q v H' := q
  rw [strsOf_map] at q
  match ws, hne, hl, hws, h1, q with
  | w1 :: r, _, hl, hws, h1, q =>
    have i0 := ed_ixL (K := K) (b := b) (σ := start NHd [v]) (H := H) (ed_var (i := 0) rfl h1) (ed_int (i := 0)) (show atI (PyData.str w1 :: r.map .str) 0 = some (.str w1) from atI_nat (j := 0) rfl)
    have ln : ED K b (tCB (rLen K) (tCons (tVar 0) tNil)) (start NHd [v]) H (.int (((w1 :: r).map PyData.str).length : Nat)) := ed_len (d := .list ((w1 :: r).map .str)) (ed_var (i := 0) rfl h1) (.inr (.inl rfl)) fun y e => by cases e
    have sl := (ed_slL (K := K) (b := b) (σ := start NHd [v]) (H := H) kn (ed_var (i := 0) rfl h1) (eo_some (K := K) (b := b) (ed_int (i := 1))) eo_none).to (e := .list (r.map .str)) (by
      show PyData.list (cutD ((w1 :: r).map PyData.str) (some ((1 : Nat) : Int)) none) = _
      rw [cut_from]
      rfl)
    have lc := ed_lcL1 (K := K) (b := b) (k := 1) (σ := start NHd [v]) (te := tCall (spP K (fun ds => ds.length = 1 ∧ ∀ d, ds = [d] → okD 30 d = true) (F1 nameD)) [] E0 (tCons (tVar 1) tNil)) (f := fun d => .bool (nameD d)) kn sl (by
      rw [List.length_map]
      have : r.length + 1 ≤ 1000 := hl
      exact Nat.lt_of_lt_of_le (show r.length < 1000 by omega) (by decide)) (fun d v' H3 hd x3 hv => by
      obtain ⟨x, hx, rfl⟩ := List.mem_map.mp hd
      exact ed_call (K := K) (b := b) (kn.up x3) (ea_cons (ed_var (i := 1) rfl hv) ea_nil) ⟨rfl, fun e h' => by cases h'; exact (hws x (List.mem_cons_of_mem _ hx)).ok⟩) fun _ _ => rfl
    have al := (ed_all (bs := r.map nameS) (lc.to (by
      rw [List.map_map, List.map_map]
      rfl))).to (e := .bool (r.all nameS)) (by rw [all_map])
    refine SR.fin (sr_ret ((ed_andB (ed_eqS i0 (ed_str (x := "part"))) fun _ => ed_andB (ed_gt ln (ed_int (i := 1))) fun _ => al).to ?_)) q
    cases r with
    | nil =>
      show PyData.bool (decide (w1 = "part") && (decide ((1 : Int) < ((1 : Nat) : Int)) && true)) = .bool false
      rw [decide_eq_false (show ¬ (1 : Int) < ((1 : Nat) : Int) by decide)]
      cases decide (w1 = "part") <;> rfl
    | cons y r' =>
      show PyData.bool (decide (w1 = "part") && (decide ((1 : Int) < (((w1 :: y :: r').map PyData.str).length : Nat)) && (y :: r').all nameS)) = .bool (decide (w1 = "part") && (nameS y && r'.all nameS))
      rw [decide_eq_true (show (1 : Int) < (((w1 :: y :: r').map PyData.str).length : Nat) by rw [List.length_map, List.length_cons, List.length_cons]; omega), List.all_cons, Bool.true_and]
theorem ok_hasrows (D : Def K mg "has_rows" s_hasrows ["parts"] f fd) (B : Blt mg) : FnOk P w K mg base CX0 1 f fd ["parts"] (spHas K) := by
  refine D.F.ok sc_hasrows (fun vs H Q E ⟨_, _, _, _, e, _⟩ => by rw [e]; rfl) (fun cdv A outer s H vs Q E hr h => ?_)
  obtain ⟨Ap, b, cs, st, rfl, I, q⟩ := h
  refine ⟨_, pss_one (ps_ret (pe_orT (pe_notT (pv 0)) (pe_one (pe_cmpR op_gt (pe_callB call_lenD1 rfl B.len bb_len (pa_cons (pe_ix ix_tup (pe_ix ix_list (pv 0) (pe_un un_neg pe_int) (fun _ _ => rfl)) pe_int (fun _ _ => rfl)) pa_nil)) pe_int (nomark _))))), ?_⟩
  have hA : SqL K H Ap (cs.map fun c => V.ref c.1) := .inl (.inl I.a)
  rcases List.eq_nil_or_concat st with rfl | ⟨st0, p, rfl⟩
  · have hc : cs = [] := List.length_eq_zero_iff.mp I.len
    subst hc
    exact ⟨.ref Ap, rfl, false, .inl ⟨_, hA, rfl⟩, true, rfl, q H (Ex.refl H)⟩
  · rw [List.concat_eq_append] at I q
    obtain ⟨cs0, c, rfl, hl0, v2, us, g1, g2, g3, g4⟩ := I.last
    have hA' : SqL K H Ap ((cs0.map fun c => V.ref c.1) ++ [.ref c.1]) := by
      rw [List.map_append] at hA
      exact hA
    refine ⟨.ref Ap, rfl, true, .inl ⟨_, hA', by simp⟩, false, rfl, ?_⟩
    refine ⟨.ref Ap, rfl, 1, rfl, Ap, _, -1, .ref c.1, rfl, rfl, hA', atI_neg1 _ _, c.1, _, 2, .ref c.2, rfl, rfl, ex_t hid_le g1, rfl, .ref c.2, us.length, rfl, .inl ⟨us, .inl (.inl g3), rfl⟩, _, 0, rfl, rfl, ?_⟩
    have e : decide ((0 : Int) < (us.length : Nat)) = hasRows (st0 ++ [p]) := by
      unfold hasRows
      rw [last_app]
      have : us.length = p.rows.length := by rw [dps_len g4, List.length_map]
      rw [this]
      show _ = !p.rows.isEmpty
      cases p.rows with
      | nil => rfl
      | cons r rs => exact decide_eq_true (by rw [List.length_cons]; omega)
    show Q (.bl (decide ((0 : Int) < (us.length : Nat)))) H
    rw [e]
    exact q H (Ex.refl H)
end
end Wr

set_option Elab.async false
set_option linter.all false
set_option maxRecDepth 100000
set_option maxHeartbeats 4000000
namespace Wr
open PySem PySem.Spec PyProof.Rows L2 Evl TL
abbrev s_check : Stmt := topS 43
abbrev s_read : Stmt := topS 47
theorem sc_check : FnScope ["thing"] ["thing"] (defScope s_check) := ⟨rfl, rfl, rfl, by decide +kernel, rfl, by decide +kernel, by decide +kernel⟩
abbrev NRd : List Str := ["text", "parts", "lines", "at", "line", "words", "row", "program", "name", "names", "rows"]
theorem sc_read : FnScope NRd ["text"] (defScope s_read) := ⟨rfl, rfl, rfl, by decide +kernel, rfl, by decide +kernel, by decide +kernel⟩
def CkPre (ds : List PyData) : Prop := ∃ d, ds = [d] ∧ okD 30 d = true ∧ progD d = true
/-- a text that is read to these parts -/
structure RdOk (x : Str) (st : List Pt) : Prop where
  all : readAll [] (Txt.split x ln1) = some st
  has : hasRows st = true
  ok : okD 30 (prD st) = true
  pg : progD (prD st) = true
  len : x.length ≤ 1000000
  ls : (Txt.split x ln1).length ≤ 100000
  wd : ∀ l ∈ Txt.split x ln1, l.length ≤ 1000000 ∧ Txt.split l bl1 ≠ [] ∧ (Txt.split l bl1).length ≤ 1000 ∧ ∀ w ∈ Txt.split l bl1, WdOk w
def spRd (K : PySem.W.Frag) : Sp := fun vs H Q _ => ∃ (b : List Addr) (v : V) (x : Str) (st : List Pt), vs = [v] ∧ Kn b H ∧ Dq K b H v (.str x) ∧ RdOk x st ∧ ∀ u H', Ex H H' → Dq K b H' u (prD st) → Q u H'
theorem stepL_inv {st s' : List Pt} {l : Str} (h : stepL st l = some s') :
    ((isHead (Txt.split l bl1) && hasRows st) = true ∧ s' = st ++ [⟨(Txt.split l bl1).getD 1 "", (Txt.split l bl1).drop 2, []⟩]) ∨
    ((isHead (Txt.split l bl1) && hasRows st) = false ∧ ∃ st0 p r, st = st0 ++ [p] ∧ readRow ((Txt.split l bl1).drop 1) = some r ∧ p.rows.length < 100 ∧ (Txt.split l bl1).headD "" = twoS p.rows.length ∧ s' = st0 ++ [⟨p.name, p.names, p.rows ++ [r]⟩]) := by
  unfold stepL at h
  cases hh : (isHead (Txt.split l bl1) && hasRows st) with
  | true =>
    rw [hh, if_pos rfl] at h
    exact .inl ⟨rfl, (Option.some.inj h).symm⟩
  | false =>
    rw [hh, if_neg Bool.false_ne_true] at h
    refine .inr ⟨rfl, ?_⟩
    rcases List.eq_nil_or_concat st with rfl | ⟨st0, p, rfl⟩
    · cases hr : readRow ((Txt.split l bl1).drop 1) with
      | none => rw [hr] at h; cases h
      | some r => rw [hr] at h; cases h
    · rw [List.concat_eq_append] at h ⊢
      cases hr : readRow ((Txt.split l bl1).drop 1) with
      | none => rw [hr] at h; cases h
      | some r =>
        rw [hr, last_app] at h
        have h : (if (decide (p.rows.length < 100) && decide ((Txt.split l bl1).headD "" = twoS p.rows.length)) = true then some (addRow (st0 ++ [p]) r) else none) = some s' := h
        cases hc : (decide (p.rows.length < 100) && decide ((Txt.split l bl1).headD "" = twoS p.rows.length)) with
        | false => rw [hc, if_neg Bool.false_ne_true] at h; cases h
        | true =>
          rw [hc, if_pos rfl] at h
          rw [Bool.and_eq_true] at hc
          refine ⟨st0, p, r, rfl, rfl, of_decide_eq_true hc.1, of_decide_eq_true hc.2, ?_⟩
          rw [← Option.some.inj h]
          unfold addRow
          rw [last_app]
          show (st0 ++ [p]).dropLast ++ _ = _
          rw [List.dropLast_concat]
theorem hid_sub {b b' : List Addr} {H : Hp} (h : ∀ z ∈ b, z ∈ b') : Ex (hid b' H) (hid b H) := fun c o e => by
  obtain ⟨h1, h2⟩ := hid_some e
  rw [hid_ne fun z => h1 (h c z)]
  exact h2
theorem rw_notN (r : Rw) : isN r.d = false := by cases r <;> rfl
section
variable {P : Program} {w : World} {K : PySem.W.Frag} {mg : Str → Option Value} {base : Heap} {f g g2 g3 g4 g5 aN aR aL : Addr} {fd gd gd2 gd3 gd4 gd5 : FuncData} {tk tk2 : Tok}
theorem ok_check (D : Def K mg "check_program" s_check ["thing"] f fd) (D1 : Def K mg "is_program" s_is_program ["thing"] g gd) (G1 : FnOk P w K mg base CX0 5 g gd ["thing"] (spP K ProgPre (F1 progD))) : FnOk P w K mg base CX0 6 f fd ["thing"] (spP K CkPre fun _ => .none) := by
  refine D.F.ok sc_check (fun vs H Q E h => spP_len (fun _ ⟨_, e, _⟩ => by rw [e]; rfl) h) (fun cdv A outer s H vs Q E hr h => ?_)
  obtain ⟨b, ds, kn, hd, ⟨d, rfl, hok, hpg⟩, q⟩ := h
  obtain ⟨v, d', rfl, ed, h1⟩ := one_of hd rfl
  cases ed
  refine ⟨_, pss_one (ps_if (pt_not (pt_val (pe_cd D1 G1 hr (pa_cons (pv 0) pa_nil)))) (pss_one ps_off) pss_nil), ?_⟩
  have cl := (ed_call (K := K) (b := b) (σ := start ["thing"] [v]) (pre := ProgPre) (f := F1 progD) (E := E0) kn (ea_cons (ed_var (i := 0) rfl h1) ea_nil) ⟨rfl, fun e h' => by cases h'; exact hok⟩).to (e := .bool true) (by
    show PyData.bool (progD d) = _
    rw [hpg])
  refine (et_n (et_b cl)) H (Ex.refl H) _ fun H1 x1 => ?_
  show (if false = true then _ else _)
  rw [if_neg Bool.false_ne_true]
  exact q _ H1 x1 .non
theorem sub_mem {α : Type} {l : List α} {n : Nat} {x : α} (h : x ∈ l.drop n) : x ∈ l := List.mem_of_mem_drop h
theorem ok_read (D : Def K mg "read_program" s_read ["text"] f fd) (Dh : Def K mg "is_heading" s_heading ["words"] g gd) (Gh : FnOk P w K mg base CX0 2 g gd ["words"] (spP K HdPre hdF))
    (Dr : Def K mg "has_rows" s_hasrows ["parts"] g2 gd2) (Gr : FnOk P w K mg base CX0 1 g2 gd2 ["parts"] (spHas K)) (Dn : Def K mg "is_numbered" s_numbered ["word", "at"] g3 gd3) (Gn : FnOk P w K mg base CX0 1 g3 gd3 ["word", "at"] (spP K NbPre nbF))
    (Do : Def K mg "read_row" s_rrow ["words"] g4 gd4) (Go : FnOk P w K mg base CX0 5 g4 gd4 ["words"] (spP K RrPre rrF)) (Dc : Def K mg "check_program" s_check ["thing"] g5 gd5) (Gc : FnOk P w K mg base CX0 6 g5 gd5 ["thing"] (spP K CkPre fun _ => .none)) (B : Blt mg) :
    FnOk P w K mg base CX0 7 f fd ["text"] (spRd K) := by
  refine D.F.ok sc_read (fun vs H Q E ⟨_, _, _, _, e, _⟩ => by rw [e]; rfl) (fun cdv A outer s H vs Q E hr h => ?_)
  obtain ⟨b, v, x, st, rfl, kn, h1, R, q⟩ := h
  have ev := dq_str h1
  subst ev
  refine ⟨_, pss_cons (ps_if (pt_not (pt_val (pe_callB call_isi rfl B.isi bb_isinstance (pa_cons (pv 0) (pa_cons (pe_tyN rfl B.str bt_str) pa_nil))))) (pss_one ps_off) pss_nil)
    (pss_cons (ps_set (i := 1) sc_read.nd rfl (Or.inl rfl) (pe_lst pa_nil))
    (pss_cons (ps_set (i := 2) sc_read.nd rfl (Or.inl rfl) (pe_bm PySem.F.plainAttrs_str PySem.F.slot_str_split PySem.F.type_str_split mt_splitD (pv 0) (pa_cons pe_str pa_nil)))
    (pss_cons (ps_for PassesOwn.never rfl (pi_enum rfl B.enum (pa_cons (pv 2) pa_nil)) (pg_tup rfl (pgs_cons (pg_name (i := 3) sc_read.nd rfl (Or.inl rfl)) (pgs_cons (pg_name (i := 4) sc_read.nd rfl (Or.inl rfl)) pgs_nil))) (pss_cons (ps_set (i := 5) sc_read.nd rfl (Or.inl rfl) (pe_bm PySem.F.plainAttrs_str PySem.F.slot_str_split PySem.F.type_str_split mt_splitD (pv 4) (pa_cons pe_str pa_nil)))
    (pss_cons (ps_if (PW.pt (pw_and (pt_val (pe_cd Dh Gh (hr.mono (by decide)) (pa_cons (pv 5) pa_nil))) (pw_and1 (pt_val (pe_cd Dr Gr (hr.mono (by decide)) (pa_cons (pv 1) pa_nil)))))) (pss_cons (ps_expr (pe_bm PySem.F.plainAttrs_list PySem.F.slot_list_append PySem.F.type_list_append mt_append (pv 1) (pa_cons (pe_tupF (pa_cons (pe_ix ix_list (pv 5) pe_int (fun _ _ => rfl)) (pa_cons (pe_callTy call_tupF rfl B.tuple bt_tuple (pa_cons (pe_slice sl_list (pv 5) (po_some pe_int) po_none) pa_nil)) (pa_cons (pe_lst pa_nil) pa_nil)))) pa_nil)))
    (pss_one ps_continue)) pss_nil)
    (pss_cons (ps_set (i := 6) sc_read.nd rfl (Or.inl rfl) (pe_cd Do Go (hr.mono (by decide)) (pa_cons (pe_slice sl_list (pv 5) (po_some pe_int) po_none) pa_nil)))
    (pss_cons (ps_if (PW.pt (pw_or (pt_cmp (pc_isN (pv 6))) (pw_or (pt_not (pt_truth (pv 1) (fun _ => rfl))) (pw_or1 (pt_not (pt_val (pe_cd Dn Gn (hr.mono (by decide)) (pa_cons (pe_ix ix_list (pv 5) pe_int (fun _ _ => rfl)) (pa_cons (pe_callB call_lenD1 rfl B.len bb_len (pa_cons (pe_ix ix_tup (pe_ix ix_list (pv 1) (pe_un un_neg pe_int) (fun _ _ => rfl)) pe_int (fun _ _ => rfl)) pa_nil)) pa_nil))))))))) (pss_one ps_off) pss_nil)
    (pss_one (ps_expr (pe_bm PySem.F.plainAttrs_list PySem.F.slot_list_append PySem.F.type_list_append mt_append (pe_ix ix_tup (pe_ix ix_list (pv 1) (pe_un un_neg pe_int) (fun _ _ => rfl)) pe_int (fun _ _ => rfl)) (pa_cons (pv 6) pa_nil)))))))))
    (pss_cons (ps_if (pt_not (pt_val (pe_cd Dr Gr (hr.mono (by decide)) (pa_cons (pv 1) pa_nil)))) (pss_one ps_off) pss_nil)
    (pss_cons (ps_set (i := 7) sc_read.nd rfl (Or.inl rfl) (pe_callTy call_tupF rfl B.tuple bt_tuple (pa_cons (pe_lc (own := [("name", 8), ("names", 9), ("rows", 10)]) (g := gTup K 3 (gCons (gName 8) (gCons (gName 9) (gCons (gName 10) gNil)))) (tt := tYes) rfl sc_read.nd (pi_list (pv 1)) (blkOk_by (N := NRd) (sc := defScope s_read) (by decide +kernel)) (fun _ _ _ _ _ => (pg_tup rfl (pgs_cons (pg_name (i := 8) sc_read.nd rfl (Or.inl rfl)) (pgs_cons (pg_name (i := 9) sc_read.nd rfl (Or.inl rfl)) (pgs_cons (pg_name (i := 10) sc_read.nd rfl (Or.inl rfl)) pgs_nil))))) (fun _ _ _ _ _ => pts_nil) (fun _ _ _ _ _ => (pe_tupF (pa_cons (pv 8) (pa_cons (pv 9) (pa_cons (pe_callTy (r := rTupOf K) call_tupF rfl B.tuple bt_tuple (pa_cons (pv 10) pa_nil)) pa_nil)))))) pa_nil)))
    (pss_cons (ps_expr (pe_cd Dc Gc hr (pa_cons (pv 7) pa_nil)))
    (pss_one (ps_ret (pv 7))))))))), ?_⟩
  have hsl : sizeLine = 16777216 := sizeLine_eq
  have t1 := et_n (et_b (ed_isi (K := K) (b := b) (σ := start NRd [.str x]) (H := H) (T := "str") (.inr (.inr (.inl rfl))) (ed_var (i := 0) rfl h1)))
  refine g_ifF t1 fun H1 x1 => ?_
  refine ⟨by decide, fun Ap hAp => ?_⟩
  -- parts = []
  have x2 : Ex H (upd H1 Ap (.lst [])) := x1.trans (Ex.new hAp)
  have hA0 : H Ap = none := by
    cases z : H Ap with
    | none => rfl
    | some o => rw [x1 _ _ z] at hAp; cases hAp
  have eA : (upd H1 Ap (.lst [])) Ap = some (.lst []) := upd_same
  generalize upd H1 Ap (.lst []) = H2 at x2 eA
  have kn2 : Kn (Ap :: b) H2 := fun z hz => by
    rcases List.mem_cons.mp hz with rfl | hz
    · rw [eA]; intro q; cases q
    · exact kn.up x2 z hz
  -- lines = text.split
  refine g_set (ed_split (K := K) (b := Ap :: b) (σ := [some (.str x), some (.ref Ap), none, none, none, none, none, none, none, none, none]) (H := H2) kn2 (ed_var (i := 0) rfl (.str x)) (ed_str (x := "\n")) (by decide +kernel) (by have := R.len; omega)) fun vl H3 x3 hvl => ?_
  have x23 := x2.trans x3
  have eA3 := x3 _ _ eA
  have hvl : Dq K (Ap :: b) H3 vl (.list ((Txt.split x ln1).map .str)) := hvl
  have hall := R.all
  have hwd := R.wd
  have hls := R.ls
  generalize Txt.split x ln1 = ls at hvl hall hwd hls
  cases hvl with
  | @lst PL xs _ gL1 gL2 =>
  have exs := dps_strs gL2
  subst exs
  refine ⟨.ref PL, rfl, PL, _, rfl, ex_l hid_le gL1, ?_⟩
  refine for_it (walk_enum (K := K) (xs := ls.map V.str)) (fun i σ' H' => ∃ (b' : List Addr) (cs : List (Addr × Addr)) (sti : List Pt) (u3 u4 u5 u6 : Option V), σ' = [some (.str x), some (.ref Ap), some (.ref PL), u3, u4, u5, u6, none, none, none, none] ∧ Ex H H' ∧ (∀ z ∈ b, z ∈ b') ∧ (∀ c ∈ cs, H c.2 = none) ∧ PartsI K b' H' Ap cs sti ∧ SqL K (hid b' H') PL (ls.map V.str) ∧ readAll sti (ls.drop i) = some st ∧ sti.length ≤ i)
    ⟨Ap :: b, [], [], none, none, none, none, rfl, x23, fun z hz => List.mem_cons_of_mem _ hz, (fun c hc => by cases hc), ⟨kn2.up x3, eA3, List.mem_cons_self, (fun c hc => by cases hc), List.nodup_nil, (fun c hc => by cases hc), rfl, (fun i c p hc => by cases hc)⟩, gL1, hall, Nat.le_refl 0⟩ ?_ ?_ ?_
  · intro i σ' H' _ ⟨b', cs, sti, u3, u4, u5, u6, es, xx, hb, hn, I, hL, hrd, hsi⟩
    exact ex_l hid_le hL
  · intro i xv σ' H4 H4' hi ⟨b', cs, sti, u3, u4, u5, u6, es, xx, hb, hn, I, hL, hrd, hsi⟩ ⟨T, y1, y2, e1, e2, e3, e4, e5⟩
    subst es e1 e3
    have ey1 : y1 = .int (i : Nat) := (Option.some.inj e4).symm
    subst ey1
    rw [List.length_map] at hi
    obtain ⟨l, hl⟩ : ∃ l, ls[i]? = some l := ⟨_, List.getElem?_eq_getElem hi⟩
    have ey2 : y2 = .str l := by
      have e5 : (ls.map V.str)[i]? = some y2 := e5
      rw [List.getElem?_map, hl] at e5
      exact (Option.some.inj e5).symm
    subst ey2
    have hlm := List.mem_of_getElem? hl
    obtain ⟨hll, hne, hwl, hwk⟩ := hwd l hlm
    have hdr : ls.drop i = l :: ls.drop (i + 1) := by
      obtain ⟨hlt, e⟩ := List.getElem?_eq_some_iff.mp hl
      rw [List.drop_eq_getElem_cons hlt, e]
    rw [hdr] at hrd
    have hrd : (match stepL sti l with | none => none | some st' => readAll st' (ls.drop (i + 1))) = some st := hrd
    obtain ⟨s', hs', hrd'⟩ : ∃ s', stepL sti l = some s' ∧ readAll s' (ls.drop (i + 1)) = some st := by
      cases z : stepL sti l with
      | none => rw [z] at hrd; cases hrd
      | some s' => rw [z] at hrd; exact ⟨s', rfl, hrd⟩
    have xT := Ex.new (o := HO.tup [.int (i : Nat), .str l]) e2
    have hT : (upd H4 T (.tup [.int (i : Nat), .str l])) T = some (.tup [.int (i : Nat), .str l]) := upd_same
    generalize upd H4 T (.tup [.int (i : Nat), .str l]) = H5 at xT hT
    have I5 := I.up xT
    refine ⟨T, _, rfl, .inl (.inl hT), rfl, _, _, rfl, _, _, rfl, rfl, ?_⟩
    refine g_set (ed_split (K := K) (b := b') (σ := [some (.str x), some (.ref Ap), some (.ref PL), some (.int (i : Nat)), some (.str l), u5, u6, none, none, none, none]) (H := H5) I5.kn (ed_var (i := 4) rfl (.str l)) (ed_str (x := " ")) (by decide +kernel) (by omega)) fun vw H6 x6 hvw => ?_
    have hvw : Dq K b' H6 vw (.list ((Txt.split l bl1).map .str)) := hvw
    have hinv := stepL_inv hs'
    generalize hws : Txt.split l bl1 = ws at hvw hinv hne hwl hwk
    have I6 := I5.up x6
    have xx6 := (xx.trans xT).trans x6
    have hL6 := ex_l (hid_ex x6) (ex_l (hid_ex xT) hL)
    -- is_heading(words) and has_rows(parts)
    have tH := et_b (ed_call (K := K) (b := b') (σ := [some (.str x), some (.ref Ap), some (.ref PL), some (.int (i : Nat)), some (.str l), some vw, u6, none, none, none, none]) (H := H6) (pre := HdPre) (f := hdF) (E := E0) I6.kn (ea_cons (ed_var (i := 5) rfl hvw) ea_nil) ⟨ws, rfl, hne, hwl, hwk⟩ |>.to (e := .bool (isHead ws)) (by
      show PyData.bool (isHead (strsOf (ws.map .str))) = _
      rw [strsOf_map]))
    have tR : EvT (tB (tCall (spHas K) [] E0 (tCons (tVar 1) tNil))) [some (.str x), some (.ref Ap), some (.ref PL), some (.int (i : Nat)), some (.str l), some vw, u6, none, none, none, none] H6 (hasRows sti) := fun H7 x7 Q' q' => ⟨.ref Ap, rfl, Ap, b', cs, sti, rfl, I6.up x7, fun H8 x8 => ⟨_, rfl, q' H8 x8⟩⟩
    have tt := et_and tH fun _ => tR
    obtain ⟨w1, wr, ew⟩ : ∃ w1 wr, ws = w1 :: wr := by
      cases ws with
      | nil => exact absurd rfl hne
      | cons a r => exact ⟨a, r, rfl⟩
    rcases hinv with ⟨hh, es'⟩ | ⟨hh, st0, p, r, est, hrr, hn100, htw, es'⟩
    · rw [hh] at tt
      refine g_ifT tt fun H7 x7 => ?_
      have I7 := I6.up x7
      have hvw7 := Dq.up hvw x7
      rw [Bool.and_eq_true] at hh
      obtain ⟨w2, wr2, ew2⟩ : ∃ w2 wr2, wr = w2 :: wr2 := by
        rw [ew] at hh
        cases wr with
        | nil => cases hh.1
        | cons a r => exact ⟨a, r, rfl⟩
      subst ew ew2
      subst es'
      -- the tuple
      have i1 := ed_ixL (K := K) (b := b') (σ := [some (.str x), some (.ref Ap), some (.ref PL), some (.int (i : Nat)), some (.str l), some vw, u6, none, none, none, none]) (H := H7) (ed_var (i := 5) rfl hvw7) (ed_int (i := 1)) (show atI (PyData.str w1 :: .str w2 :: wr2.map .str) 1 = some (.str w2) from atI_nat (j := 1) rfl)
      have sl := (ed_slL (K := K) (b := b') (σ := [some (.str x), some (.ref Ap), some (.ref PL), some (.int (i : Nat)), some (.str l), some vw, u6, none, none, none, none]) (H := H7) I7.kn (ed_var (i := 5) rfl hvw7) (eo_some (K := K) (b := b') (ed_int (i := 2))) eo_none).to (e := .list (wr2.map .str)) (by
        show PyData.list (cutD ((w1 :: w2 :: wr2).map PyData.str) (some ((2 : Nat) : Int)) none) = _
        rw [cut_from]
        rfl)
      refine ⟨.ref Ap, rfl, .inl ⟨rfl, _, .inl (.inl I7.a)⟩, ?_⟩
      refine i1 H7 (Ex.refl H7) _ fun v1 H8 x8 hv1 => sl H8 x8 _ fun v2 H9 x9 hv2 => ?_
      have ev1 := dq_str hv1
      subst ev1
      cases hv2 with
      | @lst p2 us2 _ k1 k2 =>
      refine ⟨p2, us2, rfl, ex_l hid_le k1, fun Nn o1 hNn ho1 => ⟨by decide, fun L hL' => ⟨by show 3 ≤ sizeLine; decide, fun Tt o2 hTt ho2 => ?_⟩⟩⟩
      have kn9 := I7.kn.up (x8.trans x9)
      have dN : Dq K b' (upd H9 Nn (.frz o1 (.tup us2))) (.ref Nn) (.tuple (wr2.map .str)) := dq_newT kn9 hNn ho1 k2
      have xN := Ex.new (o := HO.frz o1 (.tup us2)) hNn
      generalize upd H9 Nn (.frz o1 (.tup us2)) = HN at dN xN hL' hTt
      have xAN := (x8.trans x9).trans xN
      have INn := I7.up xAN
      have hLn : L ∉ b' := INn.kn.new hL'
      have xL := Ex.new (o := HO.lst []) hL'
      have eL : (upd HN L (.lst [])) L = some (.lst []) := upd_same
      have dN2 : Dq K (L :: b') (upd HN L (.lst [])) (.ref Nn) (.tuple (wr2.map .str)) := dp_ex (hid_ex xL) _ _ (Dq.hide dN hL')
      have hLL : SqL K (hid (L :: b') (upd HN L (.lst []))) PL (ls.map V.str) := ex_l (hid_ex xL) (ex_l (hide_ex hL') (ex_l (hid_ex (x7.trans xAN)) hL6))
      have cellL : ∀ (j : Nat) (c : Addr × Addr) (p : Pt), cs[j]? = some c → sti[j]? = some p → Cell K (L :: b') (upd HN L (.lst [])) c p := fun j c p hc hp => by
        obtain ⟨v2, us, f1, f2, f3, f4⟩ := INn.cell j c p hc hp
        exact ⟨v2, us, ex_t (hid_ex xL) (ex_t (hide_ex hL') f1), dp_ex (hid_ex xL) _ _ (Dq.hide f2 hL'), xL _ _ f3, dps_ex (hid_ex xL) _ _ (dps_ex (hide_ex hL') _ _ f4)⟩
      have hA1 := xL _ _ INn.a
      have knL : Kn (L :: b') (upd HN L (.lst [])) := fun z hz => by
        rcases List.mem_cons.mp hz with rfl | hz
        · rw [eL]; intro q; cases q
        · exact INn.kn.up xL z hz
      have hH0 : H L = none := by
        cases z : H L with
        | none => rfl
        | some o => rw [((xx6.trans x7).trans xAN) _ _ z] at hL'; cases hL'
      have xxL := ((xx6.trans x7).trans xAN).trans xL
      generalize upd HN L (.lst []) = HL at hTt xL eL dN2 hLL cellL hA1 knL xxL
      have hTn : Tt ∉ L :: b' := knL.new hTt
      have xT2 := Ex.new (o := HO.frz o2 (.tup [.str w2, .ref Nn, .ref L])) hTt
      have eT : hid (L :: b') (upd HL Tt (.frz o2 (.tup [.str w2, .ref Nn, .ref L]))) Tt = some (.frz o2 (.tup [.str w2, .ref Nn, .ref L])) := hid_new hTn
      have xxT := xxL.trans xT2
      have hA2 := xT2 _ _ hA1
      have eL2 := xT2 _ _ eL
      have dN3 := Dq.up dN2 xT2
      have hLT := ex_l (hid_ex xT2) hLL
      have knT := knL.up xT2
      have cellT : ∀ (j : Nat) (c : Addr × Addr) (p : Pt), cs[j]? = some c → sti[j]? = some p → Cell K (L :: b') (upd HL Tt (.frz o2 (.tup [.str w2, .ref Nn, .ref L]))) c p := fun j c p hc hp => by
        obtain ⟨v2, us, f1, f2, f3, f4⟩ := cellL j c p hc hp
        exact ⟨v2, us, ex_t (hid_ex xT2) f1, Dq.up f2 xT2, xT2 _ _ f3, DqAll.up f4 xT2⟩
      generalize upd HL Tt (.frz o2 (.tup [.str w2, .ref Nn, .ref L])) = HT at eT xxT hA2 eL2 dN3 hLT knT cellT
      have hcl : cs.length ≤ 100000 := by
        have := I.len
        omega
      refine ⟨Ap, _, .ref Tt, rfl, rfl, hA2, by rw [List.length_map]; omega, ?_⟩
      have hAb : Ap ∈ L :: b' := List.mem_cons_of_mem _ I.ab
      have hLA : L ≠ Ap := fun z => hLn (by rw [z]; exact I.ab)
      refine ⟨L :: b', cs ++ [(Tt, L)], _, _, _, _, _, rfl, Ex.mut xxT hA0, fun z hz => List.mem_cons_of_mem _ (hb z hz), ?_, ⟨?_, ?_, hAb, ?_, ?_, ?_, ?_, ?_⟩, ?_, hrd', by rw [List.length_append]; exact Nat.add_le_add_right hsi 1⟩
      · intro c hc
        rcases List.mem_append.mp hc with hc | hc
        · exact hn c hc
        · rw [List.mem_singleton.mp hc]
          exact hH0
      · intro z hz
        by_cases e : z = Ap
        · rw [e, upd_same]; intro q; cases q
        · rw [upd_ne e]
          exact knT z hz
      · rw [upd_same, List.map_append]
        rfl
      · intro c hc
        rcases List.mem_append.mp hc with hc | hc
        · exact List.mem_cons_of_mem _ (I.lb c hc)
        · rw [List.mem_singleton.mp hc]
          exact List.mem_cons_self
      · rw [List.map_append, List.nodup_append]
        refine ⟨I.nd, by simp, ?_⟩
        intro z hz z' hz' e
        have ez : z' = L := List.mem_singleton.mp hz'
        obtain ⟨c, hc, ec⟩ := List.mem_map.mp hz
        exact hLn (by rw [← ez, ← e, ← ec]; exact I.lb c hc)
      · intro c hc
        rcases List.mem_append.mp hc with hc | hc
        · exact I.an c hc
        · rw [List.mem_singleton.mp hc]
          exact hLA
      · rw [List.length_append, List.length_append, I.len]
        rfl
      · intro j c p hc hp
        have hLAe : (upd HT Ap (.lst ((cs.map fun c => V.ref c.1) ++ [.ref Tt]))) L = HT L := upd_ne hLA
        by_cases hj : j < cs.length
        · rw [List.getElem?_append_left hj] at hc
          rw [List.getElem?_append_left (by rw [← I.len]; exact hj)] at hp
          obtain ⟨v2, us, f1, f2, f3, f4⟩ := cellT j c p hc hp
          refine ⟨v2, us, ?_, ?_, ?_, ?_⟩
          · rw [hid_upd hAb]; exact f1
          · show Dd K (hid _ _) _ _
            rw [hid_upd hAb]; exact f2
          · rw [upd_ne (I.an c (List.mem_of_getElem? hc))]; exact f3
          · show DdAll K (hid _ _) _ _
            rw [hid_upd hAb]; exact f4
        · rw [List.getElem?_append_right (by omega)] at hc
          rw [List.getElem?_append_right (by rw [← I.len]; omega)] at hp
          have hj0 : j - cs.length = 0 := by
            by_cases hz : j - cs.length = 0
            · exact hz
            · rw [List.getElem?_eq_none (by rw [List.length_singleton]; omega)] at hc
              cases hc
          rw [hj0] at hc
          rw [← I.len, hj0] at hp
          have ec : (Tt, L) = c := Option.some.inj hc
          have ep := Option.some.inj hp
          subst ec ep
          refine ⟨.ref Nn, [], ?_, ?_, ?_, .nil⟩
          · rw [hid_upd hAb]; exact .inl (.inr ⟨_, eT⟩)
          · show Dd K (hid _ _) _ _
            rw [hid_upd hAb]; exact dN3
          · rw [upd_ne hLA]; exact eL2
      · rw [hid_upd hAb]
        exact hLT
    · rw [hh] at tt
      refine g_ifF tt fun H7 x7 => ?_
      have I7 := I6.up x7
      have hvw7 := Dq.up hvw x7
      subst ew est
      have hrr : readRow wr = some r := hrr
      have htw : w1 = twoS p.rows.length := htw
      have sl := (ed_slL (K := K) (b := b') (σ := [some (.str x), some (.ref Ap), some (.ref PL), some (.int (i : Nat)), some (.str l), some vw, u6, none, none, none, none]) (H := H7) I7.kn (ed_var (i := 5) rfl hvw7) (eo_some (K := K) (b := b') (ed_int (i := 1))) eo_none).to (e := .list (wr.map .str)) (by
        show PyData.list (cutD ((w1 :: wr).map PyData.str) (some ((1 : Nat) : Int)) none) = _
        rw [cut_from]
        rfl)
      refine g_set ((ed_call (K := K) (b := b') (pre := RrPre) (f := rrF) (E := E0) I7.kn (ea_cons sl ea_nil) ⟨wr, rfl, fun y hy => hwk y (List.mem_cons_of_mem _ hy)⟩).to (e := r.d) (by
        show rwO (readRow (strsOf (wr.map .str))) = _
        rw [strsOf_map, hrr]
        rfl)) fun vr H8 x8 hvr => ?_
      have I8 := I7.up x8
      have hvw8 := Dq.up hvw7 x8
      obtain ⟨cs0, c, ecs, hl0, vn, us, g1, g2, g3, g4⟩ := I8.last
      subst ecs
      have lus : us.length = p.rows.length := by rw [dps_len g4, List.length_map]
      have hA8 : SqL K H8 Ap ((cs0.map fun c => V.ref c.1) ++ [.ref c.1]) := by
        have := I8.a
        rw [List.map_append] at this
        exact .inl (.inl this)
      have lenE : ∀ H9, Ex H8 H9 → ED K b' (tCB (rLen K) (tCons (tOp (rIxT K) (tOp (rIxL K) (tVar 1) (tUn (rU fun i => .int (-i)) (tC (.int 1)))) (tC (.int 2))) tNil)) [some (.str x), some (.ref Ap), some (.ref PL), some (.int (i : Nat)), some (.str l), some vw, some vr, none, none, none, none] H9 (.int (p.rows.length : Nat)) := fun H9 x9 H10 x10 Q' q' => by
        have xa := x9.trans x10
        refine ⟨.ref Ap, rfl, 1, rfl, Ap, _, -1, .ref c.1, rfl, rfl, ex_l xa hA8, atI_neg1 _ _, c.1, _, 2, .ref c.2, rfl, rfl, ex_t xa (ex_t hid_le g1), rfl, .ref c.2, us.length, rfl, .inl ⟨us, .inl (.inl (xa _ _ g3)), rfl⟩, ?_⟩
        rw [lus]
        exact q' _ H10 (Ex.refl H10) (.int _)
      have tN := et_b (ed_isN (K := K) (b := b') (σ := [some (.str x), some (.ref Ap), some (.ref PL), some (.int (i : Nat)), some (.str l), some vw, some vr, none, none, none, none]) (H := H8) (ed_var (i := 6) rfl hvr))
      rw [rw_notN] at tN
      have tP : EvT (fun σ H Q => tVar 1 σ H fun x H' => ∃ k, TruV K x H' k ∧ Q k H') [some (.str x), some (.ref Ap), some (.ref PL), some (.int (i : Nat)), some (.str l), some vw, some vr, none, none, none, none] H8 true := fun H9 x9 Q' q' => ⟨.ref Ap, rfl, true, .inl ⟨_, ex_l x9 hA8, by simp⟩, q' H9 (Ex.refl H9)⟩
      have tP := et_n tP
      have i0 := ed_ixL (K := K) (b := b') (σ := [some (.str x), some (.ref Ap), some (.ref PL), some (.int (i : Nat)), some (.str l), some vw, some vr, none, none, none, none]) (H := H8) (ed_var (i := 5) rfl hvw8) (ed_int (i := 0)) (show atI (PyData.str w1 :: wr.map .str) 0 = some (.str w1) from atI_nat (j := 0) rfl)
      have tM := et_n (et_b ((ed_call (K := K) (b := b') (pre := NbPre) (f := nbF) (E := E0) I8.kn (ea_cons i0 (ea_cons (lenE H8 (Ex.refl H8)) ea_nil)) ⟨w1, p.rows.length, rfl⟩).to (e := .bool true) (by
        show PyData.bool (decide (((p.rows.length : Nat) : Int).toNat < 100) && decide (w1 = twoS ((p.rows.length : Nat) : Int).toNat)) = _
        rw [show ((p.rows.length : Nat) : Int).toNat = p.rows.length from rfl, decide_eq_true hn100, decide_eq_true htw]
        rfl)))
      have tO := et_or tP fun _ => tM
      have tA := et_or tN fun _ => tO
      refine g_ifF tA fun H9 x9 => ?_
      have I9 := I8.up x9
      have hA9 := ex_l x9 hA8
      have g1' := ex_t (hid_ex x9) g1
      have g3' := x9 _ _ g3
      have hvr9 := Dq.up hvr x9
      have x79 := (x7.trans x8).trans x9
      have hcm : c ∈ cs0 ++ [c] := List.mem_append.mpr (.inr (List.mem_singleton.mpr rfl))
      have hcb : c.2 ∈ b' := I.lb c hcm
      have hcA : c.2 ≠ Ap := I.an c hcm
      refine ⟨.ref Ap, rfl, 1, rfl, Ap, _, -1, .ref c.1, rfl, rfl, hA9, atI_neg1 _ _, c.1, _, 2, .ref c.2, rfl, rfl, ex_t hid_le g1', rfl, .inl ⟨rfl, us, .inl (.inl g3')⟩, vr, rfl, c.2, us, vr, rfl, rfl, g3', by omega, ?_⟩
      subst es'
      refine ⟨b', cs0 ++ [c], _, _, _, _, _, rfl, Ex.mut (xx6.trans x79) (hn c hcm), hb, hn, ⟨?_, ?_, I.ab, I.lb, I.nd, I.an, ?_, ?_⟩, ?_, hrd', ?_⟩
      · intro z hz
        by_cases e : z = c.2
        · rw [e, upd_same]; intro q; cases q
        · rw [upd_ne e]
          exact I9.kn z hz
      · rw [upd_ne (Ne.symm hcA)]
        exact I9.a
      · rw [List.length_append, List.length_append, hl0]
        rfl
      · intro j c' p' hc' hp'
        by_cases hj : j < cs0.length
        · have hne' : c'.2 ≠ c.2 := fun e => by
            have nd := I.nd
            rw [List.map_append, List.nodup_append] at nd
            rw [List.getElem?_append_left hj] at hc'
            exact nd.2.2 c'.2 (List.mem_map.mpr ⟨c', List.mem_of_getElem? hc', rfl⟩) c.2 (List.mem_singleton.mpr rfl) e
          have hp2 : (st0 ++ [p])[j]? = some p' := by
            rw [List.getElem?_append_left (by omega)] at hp' ⊢
            exact hp'
          obtain ⟨v2, us', f1, f2, f3, f4⟩ := I9.cell j c' p' hc' hp2
          refine ⟨v2, us', ?_, ?_, ?_, ?_⟩
          · rw [hid_upd hcb]; exact f1
          · show Dd K (hid _ _) _ _
            rw [hid_upd hcb]; exact f2
          · rw [upd_ne hne']; exact f3
          · show DdAll K (hid _ _) _ _
            rw [hid_upd hcb]; exact f4
        · rw [List.getElem?_append_right (by omega)] at hc'
          rw [List.getElem?_append_right (by omega)] at hp'
          have hj0 : j - cs0.length = 0 := by
            by_cases hz : j - cs0.length = 0
            · exact hz
            · rw [List.getElem?_eq_none (by rw [List.length_singleton]; omega)] at hc'
              cases hc'
          rw [hj0] at hc'
          rw [← hl0, hj0] at hp'
          have ec := Option.some.inj hc'
          have ep := Option.some.inj hp'
          subst ec ep
          refine ⟨vn, us ++ [vr], ?_, ?_, upd_same, ?_⟩
          · rw [hid_upd hcb]; exact g1'
          · show Dd K (hid _ _) _ _
            rw [hid_upd hcb]; exact Dq.up g2 x9
          · show DdAll K (hid _ _) _ ((p.rows ++ [r]).map Rw.d)
            rw [hid_upd hcb, List.map_append]
            exact dps_app (DqAll.up g4 x9) (.cons hvr9 .nil)
      · rw [hid_upd hcb]
        exact ex_l (hid_ex x79) hL6
      · rw [List.length_append] at hsi ⊢
        exact Nat.le_succ_of_le hsi
  · intro σ' H4 ⟨b', cs, sti, u3, u4, u5, u6, es, xx, hb, hn, I, hL, hrd, hsi⟩
    subst es
    rw [List.length_map, List.drop_eq_nil_of_le (Nat.le_refl _)] at hrd
    rw [List.length_map] at hsi
    have est : sti = st := Option.some.inj hrd
    subst est
    have tR : EvT (tB (tCall (spHas K) [] E0 (tCons (tVar 1) tNil))) [some (.str x), some (.ref Ap), some (.ref PL), u3, u4, u5, u6, none, none, none, none] H4 (hasRows sti) := fun H7 x7 Q' q' => ⟨.ref Ap, rfl, Ap, b', cs, sti, rfl, I.up x7, fun H8 x8 => ⟨_, rfl, q' H8 x8⟩⟩
    have tR := et_n tR
    rw [R.has] at tR
    dsimp only
    refine g_ifF tR fun H5 x5 => ?_
    have I5 := I.up x5
    have xx5 := xx.trans x5
    refine ⟨.ref Ap, rfl, Ap, rfl, ⟨_, .inl (.inl I5.a)⟩, fun Dl hD => ?_⟩
    have Db : Dl ∉ b' := I5.kn.new hD
    have hlen := I5.len
    refine lc_it (walk_list (K := K) (xs := cs.map fun c => V.ref c.1)) (fun i H3 => Ex H5 H3 ∧ ∃ us, H3 Dl = some (.lst us) ∧ DqAll K (Dl :: b') H3 us ((sti.take i).map Pt.d)) ⟨Ex.new hD, [], upd_same, .nil⟩ (fun i H3 _ p => .inl (.inl (p.1 _ _ I5.a))) ?_ ?_
    · intro i xv H6 H6' hi ⟨x6, us, e1, e2⟩ ⟨eH, hx⟩
      subst eH
      rw [List.length_map] at hi
      obtain ⟨c, hc⟩ : ∃ c, cs[i]? = some c := ⟨_, List.getElem?_eq_getElem hi⟩
      obtain ⟨p, hp⟩ : ∃ p, sti[i]? = some p := ⟨_, List.getElem?_eq_getElem (by omega)⟩
      have ex : xv = .ref c.1 := by
        rw [List.getElem?_map, hc] at hx
        exact (Option.some.inj hx).symm
      subst ex
      obtain ⟨v2, us', k1, k2, k3, k4⟩ := I5.cell i c p hc hp
      have f1 := ex_t (hid_ex x6) k1
      have f3 := x6 _ _ k3
      refine ⟨c.1, _, rfl, ex_t hid_le f1, rfl, .str p.name, _, rfl, v2, _, rfl, .ref c.2, _, rfl, rfl, rfl, ?_⟩
      refine et_yes (H := H6') _ (Ex.refl _) _ fun H7 x7 => ?_
      rw [if_pos rfl]
      have x57 := x6.trans x7
      have kn7 : Kn (Dl :: b') H7 := fun z hz => by
        rcases List.mem_cons.mp hz with rfl | hz
        · rw [x7 _ _ e1]; intro q; cases q
        · exact I5.kn.up x57 z hz
      have hideD : ∀ {v : V} {d : PyData}, Dq K b' H5 v d → Dq K (Dl :: b') H7 v d := fun h => dp_ex (hid_ex x57) _ _ (Dq.hide h hD)
      refine ⟨.str p.name, rfl, v2, rfl, .ref c.2, rfl, c.2, us', rfl, .inl (.inl (x7 _ _ f3)), fun l o hl ho => ⟨by show 3 ≤ sizeLine; decide, fun pT o' hpT ho' => ?_⟩⟩
      have d4 : DqAll K (Dl :: b') H7 us' (p.rows.map Rw.d) := dps_ex (hid_ex x57) _ _ (dps_ex (hide_ex hD) _ _ k4)
      have dl : Dq K (Dl :: b') (upd H7 l (.frz o (.tup us'))) (.ref l) (.tuple (p.rows.map Rw.d)) := dq_newT kn7 hl ho d4
      have xl := Ex.new (o := HO.frz o (.tup us')) hl
      have dT := dq_newT (K := K) (b := Dl :: b') (ds := [.str p.name, .tuple (p.names.map .str), .tuple (p.rows.map Rw.d)]) (kn7.up xl) hpT ho' (.cons (.str p.name) (.cons (Dq.up (hideD k2) xl) (.cons dl .nil)))
      have xp := Ex.new (o := HO.frz o' (.tup [V.str p.name, v2, .ref l])) hpT
      have x7p := (x7.trans xl).trans xp
      have lus := dps_len e2
      rw [List.length_map, List.length_take] at lus
      refine ⟨us, x7p _ _ e1, by omega, Ex.mut (x6.trans x7p) hD, us ++ [.ref pT], upd_same, ?_⟩
      rw [List.take_add_one, hp, List.map_append]
      exact dps_ex put_ex _ _ (dps_app (DqAll.up e2 x7p) (.cons dT .nil))
    · intro H6 ⟨x6, us, e1, e2⟩
      rw [List.length_map, hlen, List.take_of_length_le (Nat.le_refl _)] at e2
      refine ⟨Dl, us, rfl, .inl (.inl e1), fun l o hl ho => ?_⟩
      have kn6 := I5.kn.up x6
      have e2' : DqAll K b' H6 us (sti.map Pt.d) := dps_ex show_ex _ _ e2
      have dP : Dq K b' (upd H6 l (.frz o (.tup us))) (.ref l) (prD sti) := dq_newT kn6 hl ho e2'
      have xl := Ex.new (o := HO.frz o (.tup us)) hl
      have kn7 := kn6.up xl
      have xx7 := (xx5.trans x6).trans xl
      generalize upd H6 l (.frz o (.tup us)) = H7 at dP xl kn7 xx7
      refine (ed_call (K := K) (b := b') (pre := CkPre) (f := fun _ => .none) (E := E0) kn7 (ea_cons (ed_var (σ := [some (.str x), some (.ref Ap), some (.ref PL), u3, u4, u5, u6, some (.ref l), none, none, none]) (i := 7) rfl dP) ea_nil) ⟨_, rfl, R.ok, R.pg⟩) H7 (Ex.refl H7) _ fun v8 H8 x8 _ => ?_
      exact ⟨.ref l, rfl, q _ H8 (xx7.trans x8) (dp_ex (hid_sub hb) _ _ (Dq.up dP x8))⟩
end
end Wr

set_option Elab.async false
set_option linter.all false
set_option maxRecDepth 100000
set_option maxHeartbeats 4000000
namespace Wr
open PySem PySem.Spec PyProof.Rows L2 Evl TL
/-- a way to write numbers in few signs -/
structure WrLen (f : Int → Str) : Prop where
  ok : WrOk f
  len : ∀ i : Int, i.natAbs ≤ 1000000000000000000000000000000000000000 → (f i).length ≤ 50
  sok : ∀ i : Int, PyData.strOk (f i) = true
structure WelP (ps : List Pt) : Prop where
  l1 : 1 ≤ ps.length
  l9 : ps.length ≤ 9
  ok : ∀ p ∈ ps, PtOk p
structure GoodP (ps : List Pt) : Prop where
  l1 : 1 ≤ ps.length
  l8 : ps.length ≤ 8
  ok : ∀ p ∈ ps, PtOk p
  pg : progD (prD ps) = true
  okd : okD 30 (prD ps) = true
theorem GoodP.wel {ps : List Pt} (h : GoodP ps) : WelP ps := ⟨h.l1, Nat.le_succ_of_le h.l8, h.ok⟩
theorem strOk_of {x : Str} (h : ∀ c ∈ tl x, c < 0x110000) : PyData.strOk x = true := by
  show x.cps.all (· < 0x110000) = true
  rw [Array.all_eq_true']
  intro c hc
  exact decide_eq_true (h c (by
    show c ∈ x.cps.toList
    simpa using hc))
theorem words_len : (loneW ++ nameW ++ rowW ++ [("call" : Str), "put", "part"]).all (fun w => decide (w.length ≤ 6) && PyData.strOk w) = true := by decide +kernel
theorem word_wd {w : Str} (h : w ∈ loneW ++ nameW ++ rowW ++ [("call" : Str), "put", "part"]) : w.length ≤ 6 ∧ PyData.strOk w = true := by
  have q := List.all_eq_true.mp words_len w h
  rw [Bool.and_eq_true] at q
  exact ⟨of_decide_eq_true q.1, q.2⟩
theorem ws_len {f : Int → Str} (F : WrLen f) {r : Rw} (h : RwOk r) : (r.wsW f).length ≤ 2 ∧ ∀ w ∈ r.wsW f, w.length ≤ 50 ∧ PyData.strOk w = true := by
  cases r with
  | lone v =>
    have h : v ∈ loneW := h
    refine ⟨by show 1 ≤ 2; decide, fun w hw => ?_⟩
    have e : w = v := List.mem_singleton.mp hw
    subst e
    have := word_wd (w := w) (by simp [h])
    exact ⟨by omega, this.2⟩
  | nm v x =>
    obtain ⟨h1, h2⟩ : (v = "call" ∨ v ∈ nameW) ∧ nameS x = true := h
    refine ⟨by show 2 ≤ 2; decide, fun w hw => ?_⟩
    rcases List.mem_cons.mp hw with e | hw
    · subst e
      have := word_wd (w := w) (by rcases h1 with e | e; rw [e]; simp; simp [e])
      exact ⟨by omega, this.2⟩
    · have e : w = x := List.mem_singleton.mp hw
      subst e
      have := name_len h2
      exact ⟨by omega, name_strOk h2⟩
  | num v i =>
    have h : (v = "put" ∧ i.natAbs ≤ 1000000000000000000000000000000000000000) ∨ (v ∈ rowW ∧ 0 ≤ i ∧ i ≤ 60) := h
    refine ⟨by show 2 ≤ 2; decide, fun w hw => ?_⟩
    rcases List.mem_cons.mp hw with e | hw
    · subst e
      have := word_wd (w := w) (by rcases h with ⟨e, _⟩ | ⟨e, _⟩; rw [e]; simp; simp [e])
      exact ⟨by omega, this.2⟩
    · have e : w = f i := List.mem_singleton.mp hw
      subst e
      exact ⟨F.len i (by rcases h with ⟨_, h⟩ | ⟨_, _, _⟩; exact h; omega), F.sok i⟩
theorem sum_le {c : Nat} : ∀ {ws : List Str}, (∀ w ∈ ws, w.length ≤ c) → (ws.map (·.length)).sum ≤ ws.length * c
  | [], _ => by simp
  | w :: r, h => by
    have h1 := h w List.mem_cons_self
    have h2 := sum_le (ws := r) fun y hy => h y (List.mem_cons_of_mem _ hy)
    rw [List.map_cons, List.sum_cons, List.length_cons, Nat.add_mul]
    omega
theorem bl_len : bl1.length = 1 := by decide +kernel
theorem ln_len : ln1.length = 1 := by decide +kernel
theorem join_len {y : Str} (hy : y.length = 1) {ws : List Str} {c n : Nat} (h : ∀ w ∈ ws, w.length ≤ c) (hn : ws.length ≤ n) : (Txt.join y ws).length ≤ n * c + n ∧ (ws.map (·.length)).sum + ws.length * y.length ≤ n * c + n := by
  have h1 := PySem.StrLaws.join_length_le y ws
  have h2 := sum_le h
  have h3 : ws.length * c ≤ n * c := Nat.mul_le_mul_right _ hn
  rw [hy] at h1 ⊢
  rw [join_eq]
  omega
theorem row_ws {f : Int → Str} (F : WrLen f) {r : Rw} {n : Nat} (h : RwOk r) (hn : n < 100) : (twoS n :: r.wsW f).length ≤ 3 ∧ ∀ w ∈ twoS n :: r.wsW f, w.length ≤ 50 ∧ PyData.strOk w = true := by
  obtain ⟨h1, h2⟩ := ws_len F h
  refine ⟨by rw [List.length_cons]; omega, fun w hw => ?_⟩
  rcases List.mem_cons.mp hw with e | hw
  · subst e
    refine ⟨by show 2 ≤ 50; decide, strOk_of fun c hc => ?_⟩
    have hc : c ∈ [48 + n / 10, 48 + n % 10] := hc
    rcases List.mem_cons.mp hc with e | hc
    · omega
    · have := List.mem_singleton.mp hc
      omega
  · exact h2 w hw
theorem head_ws {p : Pt} (h : PtOk p) : (("part" : Str) :: p.name :: p.names).length ≤ 6 ∧ ∀ w ∈ ("part" : Str) :: p.name :: p.names, w.length ≤ 50 ∧ PyData.strOk w = true := by
  have hl := h.l3
  refine ⟨by rw [List.length_cons, List.length_cons]; omega, fun w hw => ?_⟩
  rcases List.mem_cons.mp hw with e | hw
  · have := word_wd (w := w) (by rw [e]; simp)
    exact ⟨by omega, this.2⟩
  · have hs : nameS w = true := by
      rcases List.mem_cons.mp hw with e | hw
      · rw [e]; exact h.nm
      · exact h.nms w hw
    have := name_len hs
    exact ⟨by omega, name_strOk hs⟩
theorem row_ln {f : Int → Str} (F : WrLen f) {r : Rw} {n : Nat} (h : RwOk r) (hn : n < 100) : (rowLW f n r).length ≤ 310 := by
  obtain ⟨h1, h2⟩ := row_ws F h hn
  have := (join_len bl_len (c := 50) (n := 3) (fun w hw => (h2 w hw).1) h1).1
  unfold rowLW
  omega
theorem head_ln {p : Pt} (h : PtOk p) : (headL p).length ≤ 310 := by
  obtain ⟨h1, h2⟩ := head_ws h
  have := (join_len bl_len (c := 50) (n := 6) (fun w hw => (h2 w hw).1) h1).1
  unfold headL
  omega
theorem rows_lines {f : Int → Str} (F : WrLen f) {C : Str → Prop} (hC : ∀ (n : Nat) (r : Rw), RwOk r → n < 100 → C (rowLW f n r)) : ∀ (rs : List Rw) (n : Nat), (∀ r ∈ rs, RwOk r) → n + rs.length ≤ 100 → ∀ l ∈ rowsLW f n rs, C l
  | [], _, _, _, l, hl => by cases hl
  | r :: rs, n, h, hn, l, hl => by
    have hn : n + (rs.length + 1) ≤ 100 := hn
    have hl : l ∈ rowLW f n r :: rowsLW f (n + 1) rs := hl
    rcases List.mem_cons.mp hl with e | hl
    · rw [e]
      exact hC n r (h r List.mem_cons_self) (by omega)
    · exact rows_lines F hC rs (n + 1) (fun r hr => h r (List.mem_cons_of_mem _ hr)) (by omega) l hl
theorem lines_all {f : Int → Str} (F : WrLen f) {C : Str → Prop} (hC : ∀ (n : Nat) (r : Rw), RwOk r → n < 100 → C (rowLW f n r)) (hH : ∀ p, PtOk p → C (headL p)) {ps : List Pt} (h : ∀ p ∈ ps, PtOk p) : ∀ l ∈ linesW f ps, C l := by
  intro l hl
  obtain ⟨p, hp, hl⟩ := List.mem_flatMap.mp hl
  have ok := h p hp
  have hl : l ∈ headL p :: rowsLW f 0 p.rows := hl
  rcases List.mem_cons.mp hl with e | hl
  · rw [e]; exact hH p ok
  · exact rows_lines F hC p.rows 0 ok.rs (by have := ok.r60; omega) l hl
theorem rows_count (f : Int → Str) : ∀ (rs : List Rw) (n : Nat), (rowsLW f n rs).length = rs.length
  | [], _ => rfl
  | r :: rs, n => by
    show (rowsLW f (n + 1) rs).length + 1 = rs.length + 1
    rw [rows_count f rs]
theorem lines_count (f : Int → Str) : ∀ {ps : List Pt}, (∀ p ∈ ps, PtOk p) → (linesW f ps).length ≤ ps.length * 62
  | [], _ => Nat.zero_le _
  | p :: ps, h => by
    have ih := lines_count f (ps := ps) fun q hq => h q (List.mem_cons_of_mem _ hq)
    have ok := (h p List.mem_cons_self).r60
    show ((headL p :: rowsLW f 0 p.rows) ++ linesW f ps).length ≤ (ps.length + 1) * 62
    rw [List.length_append, List.length_cons, rows_count, Nat.add_mul]
    omega
theorem show_len {f : Int → Str} (F : WrLen f) {ps : List Pt} (G : WelP ps) : (linesW f ps).length ≤ 558 ∧ (showW f ps).length ≤ 200000 ∧ ((linesW f ps).map (·.length)).sum + (linesW f ps).length * ln1.length ≤ 16777216 := by
  have h1 := lines_count f G.ok
  have h8 := G.l9
  have h2 : (linesW f ps).length ≤ 558 := by omega
  have h3 := join_len ln_len (c := 310) (n := 558) (lines_all F (C := fun l => l.length ≤ 310) (fun n r h hn => row_ln F h hn) (fun p h => head_ln h) G.ok) h2
  unfold showW
  exact ⟨h2, by omega, by omega⟩
theorem rd_ok {f : Int → Str} (F : WrLen f) {ps : List Pt} (G : GoodP ps) : RdOk (showW f ps) ps := by
  have hne : ps ≠ [] := fun e => by have := G.l1; rw [e] at this; cases this
  have hs := show_split F.ok hne G.ok
  obtain ⟨l1, l2, l3⟩ := show_len F G.wel
  refine ⟨?_, ?_, G.okd, G.pg, by omega, by rw [hs]; omega, ?_⟩
  · rw [hs]
    exact read_back F.ok ps [] G.ok rfl
  · rcases List.eq_nil_or_concat ps with e | ⟨st, p, e⟩
    · exact absurd e hne
    · rw [List.concat_eq_append] at e
      rw [e]
      exact hasRows_app (G.ok p (by rw [e]; simp)).r0
  · rw [hs]
    refine lines_all F (C := fun l => l.length ≤ 1000000 ∧ Txt.split l bl1 ≠ [] ∧ (Txt.split l bl1).length ≤ 1000 ∧ ∀ w ∈ Txt.split l bl1, WdOk w) (fun n r h hn => ?_) (fun p h => ?_) G.ok
    · have hl := row_ln F h hn
      obtain ⟨k1, k2⟩ := row_ws F h hn
      rw [rowW_split F.ok h hn]
      exact ⟨by omega, by simp, by omega, fun w hw => ⟨(k2 w hw).2, by have := (k2 w hw).1; omega⟩⟩
    · have hl := head_ln h
      obtain ⟨k1, k2⟩ := head_ws h
      rw [headW_split h]
      exact ⟨by omega, by simp, by omega, fun w hw => ⟨(k2 w hw).2, by have := (k2 w hw).1; omega⟩⟩
theorem intL_len {i : Int} (h : i.natAbs ≤ 1000000000000000000000000000000000000000) : (intL i).length ≤ 41 := by
  unfold intL
  split
  · rw [List.length_cons]
    have := numL_len (n := (-i).toNat) (k := 40) (by decide) (by omega)
    omega
  · have := numL_len (n := i.toNat) (k := 40) (by decide) (by omega)
    omega
theorem intL_small {i : Int} : ∀ c ∈ intL i, c < 128 := by
  intro c hc
  unfold intL at hc
  split at hc
  · rcases List.mem_cons.mp hc with e | hc
    · omega
    · have := numL_digits _ c hc
      omega
  · have := numL_digits _ c hc
    omega
theorem numT_len : WrLen numT := by
  refine ⟨numT_ok, fun i hi => ?_, fun i => strOk_of fun c hc => ?_⟩
  · rw [len_tl]
    unfold numT
    rw [tl_int]
    have := intL_len hi
    omega
  · unfold numT at hc
    rw [tl_int] at hc
    have := intL_small c hc
    omega
end Wr

set_option Elab.async false
set_option linter.all false
set_option maxRecDepth 100000
set_option maxHeartbeats 4000000
namespace Wr
open PySem PySem.Spec PyProof.Rows L2 Evl TL
abbrev s_show : Stmt := topS 46
abbrev NSh : List Str := ["program", "lines", "name", "names", "rows", "at", "row", "told"]
theorem sc_show : FnScope NSh ["program"] (defScope s_show) := ⟨rfl, rfl, rfl, by decide +kernel, rfl, by decide +kernel, by decide +kernel⟩
/-- str(x) of a text or an int -/
def rStrD : List V → Hp → VK → Prop := fun xs H Q => (∃ i : Int, xs = [.int i] ∧ i.natAbs.log2 < 1920 ∧ Q (.str (numT i)) H) ∨ ∃ a, xs = [.str a] ∧ Q (.str a) H
theorem call_strD {X : Cx} : CallR X (.type "str") rStrD := by
  intro pins s σ H xs us Q I r h
  rcases h with h | h
  · exact call_str_int pins s σ H xs us Q I r h
  · exact SkE.call_str_str pins s σ H xs us Q I r h
def txD : PyData → PyData
  | .int i => .str (numT i)
  | d => d
section
variable {K : PySem.W.Frag} {b : List Addr} {σ : L2.St} {H H' : Hp} {ta tb te : TE} {t : TA} {ds es : List PyData} {d : PyData}
theorem ea_starT (ha : ED K b ta σ H (.tuple ds)) (hr : EA K b t σ H es) : EA K b (StX.tStar K ta t) σ H (ds ++ es) := fun H1 x1 Q q =>
  ha H1 x1 _ fun v H2 x2 hv => by
    cases hv with
    | @tup p xs _ g1 _ g2 => exact ⟨p, xs, rfl, .inl (ex_t hid_le g1), hr H2 (x1.trans x2) _ fun ys H3 x3 hy => q _ H3 (x2.trans x3) (dps_app (DqAll.up g2 x3) hy)⟩
theorem ed_strD (ha : ED K b ta σ H d) (hd : (∃ x, d = .str x) ∨ ∃ i : Int, d = .int i ∧ i.natAbs < 10 ^ 45) : ED K b (tCB rStrD (tCons ta tNil)) σ H (txD d) := fun H1 x1 Q q =>
  ha H1 x1 _ fun v H2 x2 hv => by
    rcases hd with ⟨x, rfl⟩ | ⟨i, rfl, hi⟩
    · exact .inr ⟨x, by rw [dq_str hv], q _ H2 x2 (.str _)⟩
    · exact .inl ⟨i, by rw [dq_int hv], log_small hi, q _ H2 x2 (.str _)⟩
theorem ed_joinB {z : Str} {ys : List Str} (ha : ED K b ta σ H (.str z)) (hb : ED K b tb σ H (.list (ys.map PyData.str))) (hl : (ys.map (·.length)).sum + ys.length * z.length ≤ 16777216) : ED K b (tBM K "str" (rJoin K) ta (tCons tb tNil)) σ H (.str (Txt.join z ys)) := ed_join ha hb hl
end
theorem row_tx {r : Rw} (h : RwOk r) : ∃ ds, r.d = .tuple ds ∧ ds.length ≤ 2 ∧ (∀ d ∈ ds, (∃ x, d = .str x) ∨ ∃ i : Int, d = .int i ∧ i.natAbs < 10 ^ 45) ∧ ds.map txD = (r.wsW numT).map .str := by
  cases r with
  | lone w => exact ⟨[.str w], rfl, (by show 1 ≤ 2; decide), fun d hd => .inl ⟨w, List.mem_singleton.mp hd⟩, rfl⟩
  | nm w x => exact ⟨[.str w, .str x], rfl, Nat.le_refl 2, fun d hd => by
      rcases List.mem_cons.mp hd with e | hd
      · exact .inl ⟨w, e⟩
      · exact .inl ⟨x, List.mem_singleton.mp hd⟩, rfl⟩
  | num w i => exact ⟨[.str w, .int i], rfl, Nat.le_refl 2, fun d hd => by
      rcases List.mem_cons.mp hd with e | hd
      · exact .inl ⟨w, e⟩
      · refine .inr ⟨i, List.mem_singleton.mp hd, ?_⟩
        have h : (w = "put" ∧ i.natAbs ≤ 1000000000000000000000000000000000000000) ∨ (w ∈ rowW ∧ 0 ≤ i ∧ i ≤ 60) := h
        rcases h with ⟨_, h⟩ | ⟨_, h1, h2⟩
        · exact Nat.lt_of_le_of_lt h (by decide)
        · exact Nat.lt_of_le_of_lt (show i.natAbs ≤ 60 by omega) (by decide), rfl⟩
theorem rowsLW_app (f : Int → Str) : ∀ (rs : List Rw) (n : Nat) (r : Rw), rowsLW f n (rs ++ [r]) = rowsLW f n rs ++ [rowLW f (n + rs.length) r]
  | [], n, r => by
    show [rowLW f n r] = [] ++ [rowLW f (n + 0) r]
    rw [Nat.add_zero]
    rfl
  | x :: rs, n, r => by
    show rowLW f n x :: rowsLW f (n + 1) (rs ++ [r]) = (rowLW f n x :: rowsLW f (n + 1) rs) ++ [_]
    rw [rowsLW_app f rs (n + 1) r]
    show _ = rowLW f n x :: (rowsLW f (n + 1) rs ++ [_])
    have e : n + 1 + rs.length = n + (x :: rs).length := by rw [List.length_cons]; omega
    rw [e]
def ShPre (ds : List PyData) : Prop := ∃ ps, ds = [prD ps] ∧ GoodP ps
def spWr (K : PySem.W.Frag) : Sp := fun vs H Q _ => ∃ (b : List Addr) (v : V) (ps : List Pt), vs = [v] ∧ Kn b H ∧ Dq K b H v (prD ps) ∧ WelP ps ∧ ∀ u H', Ex H H' → Dq K b H' u (.str (showW numT ps)) → Q u H'
def spSh (K : PySem.W.Frag) : Sp := fun vs H Q _ => ∃ (b : List Addr) (v : V) (ps : List Pt), vs = [v] ∧ Kn b H ∧ Dq K b H v (prD ps) ∧ GoodP ps ∧ ∀ u H', Ex H H' → Dq K b H' u (.str (showW numT ps)) → Q u H'
section
variable {P : Program} {w : World} {K : PySem.W.Frag} {mg : Str → Option Value} {base : Heap} {f g : Addr} {fd gd : FuncData}
theorem ok_show (D : Def K mg "show_program" s_show ["program"] f fd) (Dc : Def K mg "check_program" s_check ["thing"] g gd) (Gc : FnOk P w K mg base CX0 6 g gd ["thing"] (spP K CkPre fun _ => .none)) (B : Blt mg) : FnOk P w K mg base CX0 7 f fd ["program"] (spSh K) := by
  refine D.F.ok sc_show (fun vs H Q E ⟨_, _, _, e, _⟩ => by rw [e]; rfl) (fun cdv A outer s H vs Q E hr h => ?_)
  obtain ⟨b, v, ps, rfl, kn, h1, G, q⟩ := h
  refine ⟨_, pss_cons (ps_expr (pe_cd Dc Gc hr (pa_cons (pv 0) pa_nil)))
    (pss_cons (ps_set (i := 1) sc_show.nd rfl (Or.inl rfl) (pe_lst pa_nil))
    (pss_cons (ps_for PassesOwn.never rfl (pi_tup (pv 0)) (pg_tup rfl (pgs_cons (pg_name (i := 2) sc_show.nd rfl (Or.inl rfl)) (pgs_cons (pg_name (i := 3) sc_show.nd rfl (Or.inl rfl)) (pgs_cons (pg_name (i := 4) sc_show.nd rfl (Or.inl rfl)) pgs_nil)))) (pss_cons (ps_expr (pe_bm PySem.F.plainAttrs_list PySem.F.slot_list_append PySem.F.type_list_append mt_append (pv 1) (pa_cons (pe_bm PySem.F.plainAttrs_str PySem.F.slot_str_join PySem.F.type_str_join mt_joinD pe_str (pa_cons (pe_lst (pa_cons pe_str (pa_cons (pv 2) (StX.pa_star (pv 3) pa_nil)))) pa_nil)) pa_nil)))
    (pss_one (ps_for PassesOwn.never rfl (pi_enumT rfl B.enum (pa_cons (pv 4) pa_nil)) (pg_tup rfl (pgs_cons (pg_name (i := 5) sc_show.nd rfl (Or.inl rfl)) (pgs_cons (pg_name (i := 6) sc_show.nd rfl (Or.inl rfl)) pgs_nil))) (pss_one (ps_expr (pe_bm PySem.F.plainAttrs_list PySem.F.slot_list_append PySem.F.type_list_append mt_append (pv 1) (pa_cons (pe_bm PySem.F.plainAttrs_str PySem.F.slot_str_join PySem.F.type_str_join mt_joinD pe_str (pa_cons (pe_lst (pa_cons (pe_joined1 (pe_fmt2 (pv 5))) (StX.pa_star (pe_lc (own := [("told", 7)]) (g := gName 7) (tt := tYes) rfl sc_show.nd (pi_tup (pv 6)) (blkOk_by (N := NSh) (sc := defScope s_show) (by decide +kernel)) (fun _ _ _ _ _ => (pg_name (i := 7) sc_show.nd rfl (Or.inl rfl))) (fun _ _ _ _ _ => pts_nil) (fun _ _ _ _ _ => (pe_callTy (r := rStrD) call_strD rfl B.str bt_str (pa_cons (pv 7) pa_nil)))) pa_nil))) pa_nil)) pa_nil))))))))
    (pss_one (ps_ret (pe_bm PySem.F.plainAttrs_str PySem.F.slot_str_join PySem.F.type_str_join mt_joinD pe_str (pa_cons (pv 1) pa_nil)))))), ?_⟩
  have hsl : sizeLine = 16777216 := sizeLine_eq
  obtain ⟨n1, n2, n3⟩ := show_len numT_len G.wel
  -- check_program
  refine (ed_call (K := K) (b := b) (pre := CkPre) (f := fun _ => .none) (E := E0) kn (ea_cons (ed_var (σ := start NSh [v]) (i := 0) rfl h1) ea_nil) ⟨_, rfl, G.okd, G.pg⟩) H (Ex.refl H) _ fun v0 H1 x1 _ => ?_
  refine ⟨by decide, fun L hL => ?_⟩
  have x2 : Ex H (upd H1 L (.lst [])) := x1.trans (Ex.new hL)
  have hL0 : H L = none := fresh_back x1 hL
  have eL : (upd H1 L (.lst [])) L = some (.lst []) := upd_same
  generalize upd H1 L (.lst []) = H2 at x2 eL
  have h12 := Dq.hide (Dq.up h1 (Ex.refl H)) hL0
  have h13 : Dq K (L :: b) H2 v (prD ps) := dp_ex (hid_ex x2) _ _ h12
  have kn2 : Kn (L :: b) H2 := fun z hz => by
    rcases List.mem_cons.mp hz with rfl | hz
    · rw [eL]; intro q; cases q
    · exact kn.up x2 z hz
  have hLb : L ∈ L :: b := List.mem_cons_self
  have h14 := h13
  cases h14 with
  | @tup pa xs _ g1 gN g2 =>
  have lxs : xs.length = ps.length := by rw [dps_len g2, List.length_map]
  refine ⟨.ref pa, rfl, pa, rfl, ⟨xs, ex_t hid_le g1⟩, ?_⟩
  refine for_it (walk_tup (K := K) (xs := xs)) (fun i σ' H' => ∃ (u2 u3 u4 u5 u6 : Option V), σ' = [some (.ref pa), some (.ref L), u2, u3, u4, u5, u6, none] ∧ Ex H H' ∧ Kn (L :: b) H' ∧ DdAll K (hid (L :: b) H') xs (ps.map Pt.d) ∧ SqT K (hid (L :: b) H') pa xs ∧ H' L = some (.lst ((linesW numT (ps.take i)).map V.str)))
    ⟨none, none, none, none, none, rfl, x2, kn2, g2, g1, eL⟩ (fun i σ' H' _ ⟨_, _, _, _, _, _, _, _, _, h, _⟩ => ex_t hid_le h) ?_ ?_
  · intro i xv σ' H3 H3' hi ⟨u2, u3, u4, u5, u6, es, x3, kn3, k1, k2, e3⟩ ⟨eH, hx⟩
    subst es eH
    rw [lxs] at hi
    obtain ⟨p, hp⟩ : ∃ p, ps[i]? = some p := ⟨_, List.getElem?_eq_getElem hi⟩
    have ok := G.ok p (List.mem_of_getElem? hp)
    obtain ⟨d, hdi, dd⟩ := dps_at k1 hx
    have ed : d = p.d := by
      rw [List.getElem?_map, hp] at hdi
      exact (Option.some.inj hdi).symm
    subst ed
    cases dd with
    | @tup pp ys _ f1 fN f2 =>
    cases f2 with
    | @cons v1 _ _ _ a1 f2 =>
    cases f2 with
    | @cons v2 _ _ _ a2 f2 =>
    cases f2 with
    | @cons v3 _ _ _ a3 f2 =>
    cases f2
    refine ⟨pp, _, rfl, ex_t hid_le f1, rfl, v1, _, rfl, v2, _, rfl, v3, _, rfl, rfl, ?_⟩
    have hl0 : (linesW numT (ps.take i)).length ≤ 558 := by
      have h1 := lines_count numT (ps := ps.take i) fun q hq => G.ok q (List.mem_of_mem_take hq)
      rw [List.length_take] at h1
      have := G.l8
      omega
    -- the heading
    obtain ⟨w1, w2⟩ := head_ws ok
    have wb := (join_len bl_len (c := 50) (n := 6) (fun w hw => (w2 w hw).1) w1).2
    have hd := ed_joinB (K := K) (b := L :: b) (σ := [some (.ref pa), some (.ref L), some v1, some v2, some v3, u5, u6, none]) (H := H3') (z := bl1) (ys := ("part" : Str) :: p.name :: p.names) (ed_str (x := " ")) ((ed_lst kn3 (ea_cons (ed_str (x := "part")) (ea_cons (ed_var (i := 2) rfl a1) (ea_starT (ed_var (i := 3) rfl a2) ea_nil))) (by
      rw [List.append_nil, List.length_cons, List.length_cons, List.length_map]
      have := ok.l3
      omega)).to (by
      rw [List.append_nil]
      rfl)) (by omega)
    refine g_app (vs := (linesW numT (ps.take i)).map V.str) (j := 1) rfl e3 (by rw [List.length_map]; omega) hd fun y H4 x4 hy => ?_
    have ey := dq_str hy
    subst ey
    have x34 := x3.trans x4
    have e4 : (upd H4 L (.lst ((linesW numT (ps.take i)).map V.str ++ [.str (Txt.join bl1 (("part" : Str) :: p.name :: p.names))]))) L = some (.lst ((linesW numT (ps.take i) ++ [headL p]).map V.str)) := by
      rw [upd_same, List.map_append]
      rfl
    have hh4 : hid (L :: b) (upd H4 L (.lst ((linesW numT (ps.take i)).map V.str ++ [.str (Txt.join bl1 (("part" : Str) :: p.name :: p.names))]))) = hid (L :: b) H4 := hid_upd hLb
    have xH4 : Ex H (upd H4 L (.lst ((linesW numT (ps.take i)).map V.str ++ [.str (Txt.join bl1 (("part" : Str) :: p.name :: p.names))]))) := Ex.mut x34 hL0
    have kn4 : Kn (L :: b) (upd H4 L (.lst ((linesW numT (ps.take i)).map V.str ++ [.str (Txt.join bl1 (("part" : Str) :: p.name :: p.names))]))) := fun z hz => by
      by_cases e : z = L
      · rw [e, upd_same]; intro q; cases q
      · rw [upd_ne e]; exact kn3.up x4 z hz
    generalize upd H4 L (.lst ((linesW numT (ps.take i)).map V.str ++ [.str (Txt.join bl1 (("part" : Str) :: p.name :: p.names))])) = H5 at e4 hh4 xH4 kn4
    have c1 : DdAll K (hid (L :: b) H5) xs (ps.map Pt.d) := by rw [hh4]; exact dps_ex (hid_ex x4) _ _ k1
    have c2 : SqT K (hid (L :: b) H5) pa xs := by rw [hh4]; exact ex_t (hid_ex x4) k2
    have c3 : Dd K (hid (L :: b) H5) v3 (.tuple (p.rows.map Rw.d)) := by rw [hh4]; exact dp_ex (hid_ex x4) _ _ a3
    cases c3 with
    | @tup pr rs _ r1 rN r2 =>
    have lrs : rs.length = p.rows.length := by rw [dps_len r2, List.length_map]
    refine ⟨.ref pr, rfl, pr, rs, rfl, ex_t hid_le r1, ?_⟩
    refine for_it (walk_enumT (K := K) (xs := rs)) (fun j σ' H' => ∃ (u5 u6 : Option V), σ' = [some (.ref pa), some (.ref L), some v1, some v2, some (.ref pr), u5, u6, none] ∧ Ex H H' ∧ Kn (L :: b) H' ∧ DdAll K (hid (L :: b) H') xs (ps.map Pt.d) ∧ SqT K (hid (L :: b) H') pa xs ∧ SqT K (hid (L :: b) H') pr rs ∧ DdAll K (hid (L :: b) H') rs (p.rows.map Rw.d) ∧ H' L = some (.lst ((linesW numT (ps.take i) ++ (headL p :: rowsLW numT 0 (p.rows.take j))).map V.str)))
      ⟨u5, u6, rfl, xH4, kn4, c1, c2, r1, r2, e4⟩ (fun j σ' H' _ ⟨_, _, _, _, _, _, _, h, _⟩ => ex_t hid_le h) ?_ ?_
    · intro j xv σ' H6 H6' hj ⟨u5, u6, es, x6, kn6, c1, c2, c3, c4, e6⟩ ⟨T, y1, y2, t1, t2, t3, t4, t5⟩
      subst es t1 t3
      have ey1 : y1 = .int (j : Nat) := (Option.some.inj t4).symm
      subst ey1
      rw [lrs] at hj
      obtain ⟨r, hr'⟩ : ∃ r, p.rows[j]? = some r := ⟨_, List.getElem?_eq_getElem hj⟩
      have rok := ok.rs r (List.mem_of_getElem? hr')
      have j60 : j < 61 := Nat.lt_of_lt_of_le hj ok.r60
      obtain ⟨d, hdj, dd⟩ := dps_at c4 t5
      have ed : d = r.d := by
        rw [List.getElem?_map, hr'] at hdj
        exact (Option.some.inj hdj).symm
      subst ed
      have xT := Ex.new (o := HO.tup [.int (j : Nat), y2]) t2
      have hT : (upd H6 T (.tup [.int (j : Nat), y2])) T = some (.tup [.int (j : Nat), y2]) := upd_same
      generalize upd H6 T (.tup [.int (j : Nat), y2]) = H7 at xT hT
      refine ⟨T, _, rfl, .inl (.inl hT), rfl, _, _, rfl, y2, _, rfl, rfl, ?_⟩
      obtain ⟨rd, erd, lrd, krd, mrd⟩ := row_tx rok
      rw [erd] at dd
      have dd7 : Dq K (L :: b) H7 y2 (.tuple rd) := dp_ex (hid_ex xT) _ _ dd
      have kn7 := kn6.up xT
      obtain ⟨w1, w2⟩ := row_ws numT_len rok (n := j) (by omega)
      have wb := (join_len bl_len (c := 50) (n := 3) (fun w hw => (w2 w hw).1) w1).2
      have lc := ed_lcT1 (K := K) (b := L :: b) (k := 7) (σ := [some (.ref pa), some (.ref L), some v1, some v2, some (.ref pr), some (.int (j : Nat)), some y2, none]) (te := tCB rStrD (tCons (tVar 7) tNil)) (f := txD) kn7 (ed_var (i := 6) rfl dd7) (by omega) (fun d v' H3 hd x3 hv => ed_strD (ed_var (i := 7) rfl hv) (krd d hd)) fun d hd => by
        rcases krd d hd with ⟨x, rfl⟩ | ⟨i, rfl, _⟩ <;> rfl
      have hd := ed_joinB (K := K) (b := L :: b) (σ := [some (.ref pa), some (.ref L), some v1, some v2, some (.ref pr), some (.int (j : Nat)), some y2, none]) (H := H7) (z := bl1) (ys := twoS j :: r.wsW numT) (ed_str (x := " ")) ((ed_lst kn7 (ea_cons (ed_fmt2 (ed_var (i := 5) rfl (.int (j : Nat))) (by omega)) (ea_star lc ea_nil)) (by
        rw [List.append_nil, List.length_cons, List.length_map]
        omega)).to (by
        rw [List.append_nil, mrd]
        rfl)) (by omega)
      have hlj : (linesW numT (ps.take i) ++ (headL p :: rowsLW numT 0 (p.rows.take j))).length ≤ 1000 := by
        rw [List.length_append, List.length_cons, rows_count, List.length_take]
        omega
      refine g_app (vs := (linesW numT (ps.take i) ++ (headL p :: rowsLW numT 0 (p.rows.take j))).map V.str) (j := 1) rfl (xT _ _ e6) (by rw [List.length_map]; omega) hd fun y H8 x8 hy => ?_
      have ey := dq_str hy
      subst ey
      have hh8 : hid (L :: b) (upd H8 L (.lst ((linesW numT (ps.take i) ++ (headL p :: rowsLW numT 0 (p.rows.take j))).map V.str ++ [.str (Txt.join bl1 (twoS j :: r.wsW numT))]))) = hid (L :: b) H8 := hid_upd hLb
      have x68 := xT.trans x8
      refine ⟨_, _, rfl, Ex.mut (x6.trans x68) hL0, fun z hz => ?_, ?_, ?_, ?_, ?_, ?_⟩
      · by_cases e : z = L
        · rw [e, upd_same]; intro q; cases q
        · rw [upd_ne e]; exact kn6.up x68 z hz
      · rw [hh8]; exact dps_ex (hid_ex x68) _ _ c1
      · rw [hh8]; exact ex_t (hid_ex x68) c2
      · rw [hh8]; exact ex_t (hid_ex x68) c3
      · rw [hh8]; exact dps_ex (hid_ex x68) _ _ c4
      · rw [upd_same, List.take_add_one, hr']
        have e9 : rowsLW numT 0 (p.rows.take j ++ (some r).toList) = rowsLW numT 0 (p.rows.take j) ++ [rowLW numT j r] := by
          show rowsLW numT 0 (p.rows.take j ++ [r]) = _
          rw [rowsLW_app, List.length_take, Nat.min_eq_left (Nat.le_of_lt hj), Nat.zero_add]
        rw [e9]
        simp only [List.map_append, List.map_cons, List.map_nil, List.append_assoc, List.cons_append]
        rfl
    · intro σ' H6 ⟨u5, u6, es, x6, kn6, c1, c2, c3, c4, e6⟩
      subst es
      rw [lrs, List.take_of_length_le (Nat.le_refl _)] at e6
      refine ⟨_, _, _, _, _, rfl, x6, kn6, c1, c2, ?_⟩
      rw [e6, List.take_add_one, hp]
      unfold linesW
      rw [List.flatMap_append]
      show _ = some (HO.lst (((ps.take i).flatMap (ptLW numT) ++ [p].flatMap (ptLW numT)).map V.str))
      rw [List.flatMap_singleton]
      rfl
  · intro σ' H3 ⟨u2, u3, u4, u5, u6, es, x3, kn3, k1, k2, e3⟩
    subst es
    rw [lxs, List.take_of_length_le (Nat.le_refl _)] at e3
    dsimp only
    refine ⟨rfl, .ref L, rfl, ln1, L, linesW numT ps, rfl, rfl, .inl (.inl (.inl e3)), n3, q _ H3 x3 (.str _)⟩
end
end Wr

set_option Elab.async false
set_option linter.all false
set_option maxRecDepth 100000
set_option maxHeartbeats 4000000
namespace Wr
open PySem PySem.Spec PyProof.Rows L2 Evl
abbrev s_bag : Stmt := topS 53
abbrev NB : List Str := ["_law_script", "_law_at", "_law_cell", "_law_mix", "_law_k"]
theorem sc_bag : FnScope NB ["_law_script", "_law_at"] (defScope s_bag) := ⟨rfl, rfl, rfl, by decide +kernel, rfl, by decide +kernel, by decide +kernel⟩
/-- a new bag, out of the script and a place -/
def spBag (K : PySem.W.Frag) : Sp := fun vs H Q _ => ∃ (b : List Addr) (ns : List Int) (k : Int), Kn b H ∧ DqAll K b H vs [.list (ns.map PyData.int), .int k] ∧ 0 ≤ k ∧ k < 100 ∧ ns.length ≤ 1000 ∧ ∀ p H', H p = none → Ex H H' → Bag p 0 H' → Q (.ref p) H'
section
variable {K : PySem.W.Frag} {b : List Addr} {σ : L2.St} {H H' : Hp} {ta tb te : TE} {t : TA} {ds es : List PyData} {D : Ends} {ts : TS}
/-- if ..: x = .., else as it was -/
theorem g_ifSet {tt : TT} {i : Nat} {c : Bool} {d : PyData} {old : V} (hc : EvT tt σ H c) (h1 : c = true → ∀ H1, Ex H H1 → ED K b te σ H1 d) (hσ : σ.set i (some old) = σ) (k : ∀ v H', Ex H H' → (c = true → Dq K b H' v d) → (c = false → v = old) → ts D (σ.set i (some v)) H') : tSeq (tIfS tt (tAsg te (gName i)) tNext) ts D σ H :=
  hc H (Ex.refl H) _ fun H1 x1 => by
    cases c with
    | true =>
      rw [if_pos rfl]
      exact h1 rfl H1 x1 H1 (Ex.refl H1) _ fun v H2 x2 hv => k v H2 (x1.trans x2) (fun _ => hv) fun e => nomatch e
    | false =>
      rw [if_neg Bool.false_ne_true]
      have := k old H1 x1 (fun e => nomatch e) fun _ => rfl
      rw [hσ] at this
      exact this
theorem g_setN {i : Nat} {d : PyData} (h : ED K b te σ H d) (k : ∀ v H', Ex H H' → Dq K b H' v d → D.nx (σ.set i (some v)) H') : tAsg te (gName i) D σ H := h H (Ex.refl H) _ fun v H' x hv => k v H' x hv
end
section
variable {P : Program} {w : World} {K : PySem.W.Frag} {mg : Str → Option Value} {base : Heap} {f g g2 : Addr} {fd gd gd2 : FuncData}
theorem ok_bag (D : Def K mg "_law_bag" s_bag ["_law_script", "_law_at"] f fd) (B : Blt mg) (B2 : Blt2 mg) : FnOk P w K mg base CX0 1 f fd ["_law_script", "_law_at"] (spBag K) := by
  refine D.F.ok sc_bag (fun vs H Q E ⟨b, ns, k, _, hd, _⟩ => by rw [dps_len hd]; rfl) (fun cdv A outer s H vs Q E hr h => ?_)
  obtain ⟨b, ns, k, kn, hd, k0, k1, hl, q⟩ := h
  obtain ⟨v, v2, d, d2, rfl, ed, h1, h2⟩ := two_of hd rfl
  cases ed
  have e2 := dq_int h2
  subst e2
  refine ⟨_, pss_cons (ps_set (i := 2) sc_bag.nd rfl (Or.inl rfl) pe_int)
    (pss_cons (ps_if (pt_cmpR op_lt (pv 1) (pe_callB call_lenD1 rfl B.len bb_len (pa_cons (pv 0) pa_nil)) (nomark _)) (pss_one (ps_set (i := 2) sc_bag.nd rfl (Or.inl rfl) (pe_callB call_absB rfl B2.abs bb_abs (pa_cons (pe_ix ix_list (pv 0) (pv 1) (fun _ _ => rfl)) pa_nil)))) pss_nil)
    (pss_cons (ps_set (i := 3) sc_bag.nd rfl (Or.inl rfl) (pe_op op_mod (pe_op op_powW (pe_op op_add (pe_op op_add (pe_op op_mod (pv 2) pe_int) (pe_op op_mul pe_int (pv 1))) pe_int) pe_int) pe_int))
    (pss_cons (ps_for PassesOwn.never rfl (pi_range1 rfl B.range (pa_cons (pe_callB (cr_min2 rfl) rfl B2.min bb_min (pa_cons (pe_callB call_lenD1 rfl B.len bb_len (pa_cons (pv 0) pa_nil)) (pa_cons pe_int pa_nil))) pa_nil)) (pg_name (i := 4) sc_bag.nd rfl (Or.inl rfl))
      (pss_one (ps_set (i := 3) sc_bag.nd rfl (Or.inl rfl) (pe_op op_mod (pe_op op_add (pe_op op_add (pe_op op_mul (pv 3) pe_int) (pe_op op_mul (pe_op op_mod (pe_ix ix_list (pv 0) (pv 4) (fun _ _ => rfl)) pe_int) (pe_op op_add (pv 4) pe_int))) (pv 4)) pe_int))))
    (pss_cons (ps_if (pt_cmpR op_lt (pv 2) (pe_op op_pow pe_int pe_int) (nomark _)) (pss_one (ps_set (i := 2) sc_bag.nd rfl (Or.inl rfl) pe_int)) pss_nil)
    (pss_one (ps_ret (pe_lst (pa_cons (pv 2) (pa_cons (pv 3) pa_nil))))))))), ?_⟩
  have hsl : sizeLine = 16777216 := sizeLine_eq
  have hD : ∀ {H'}, Ex H H' → Dq K b H' v (.list (ns.map .int)) := fun {H'} x => Dq.up h1 x
  have ll : (lenD (.list (ns.map PyData.int)) : Nat) = ns.length := List.length_map ..
  have fin : ∀ (c m : Int) (y4 : Option V) (H1 : Hp), Ex H H1 → 0 ≤ c → 0 ≤ m → m < 2147483648 → tRet (tLst (tCons (tVar 2) (tCons (tVar 3) tNil))) { nx := fun _ H' => Q .non H', rt := Q } [some v, some (.int k), some (.int c), some (.int m), y4] H1 := fun c m y4 H1 x1 c0 m0 m1 => by
    refine ⟨.int c, rfl, .int m, rfl, by show 2 ≤ sizeLine; decide, fun p hp => q p _ ?_ (x1.trans (Ex.new hp)) ⟨c, m, upd_same, c0, m0, m1⟩⟩
    cases z : H p with
    | none => rfl
    | some o => rw [x1 _ _ z] at hp; cases hp
  have pw : ∀ {σ'} {H'}, ED K b (tOp (rI CPow fun i j => .int (i ^ j.toNat)) (tC (.int 10)) (tC (.int 18))) σ' H' (.int 1000000000000000000) := fun {_ _} => ed_I ed_int ed_int ⟨by decide, by decide, by decide⟩ fun _ => .int _
  refine g_set (ed_int (K := K) (b := b) (i := 0)) fun v0 H0 x0 hv0 => ?_
  have e0 := dq_int hv0
  subst e0
  have lt := et_t (ed_lt (K := K) (b := b) (ed_var (σ := [some v, some (.int k), some (.int 0), none, none]) (i := 1) (d := .int k) rfl (.int k)) (ed_len (ed_var (i := 0) rfl (hD x0)) (.inr (.inl rfl)) fun y e => by cases e))
  rw [ll] at lt
  refine g_ifSet (K := K) (b := b) (i := 2) (old := .int 0) (d := .int (if ns.getD k.toNat 0 < 0 then -(ns.getD k.toNat 0) else ns.getD k.toNat 0)) lt (fun hc H1 x1 => ed_abs (ed_ixL (ed_var (i := 0) rfl (hD (x0.trans x1))) (ed_var (i := 1) (d := .int k) rfl (.int k)) ?_)) rfl fun vc H1 x1 hyes hno => ?_
  · have hk := of_decide_eq_true hc
    have ek : k = ((k.toNat : Nat) : Int) := (Int.toNat_of_nonneg k0).symm
    rw [ek]
    refine atI_nat ?_
    rw [List.getElem?_map, List.getElem?_eq_getElem (by omega)]
    simp only [Int.toNat_natCast, List.getD_eq_getElem?_getD, List.getElem?_eq_getElem (show k.toNat < ns.length by omega), Option.getD_some, Option.map_some]
  obtain ⟨c, ec, c0⟩ : ∃ c : Int, vc = .int c ∧ 0 ≤ c := by
    cases hz : decide (k < ((ns.length : Nat) : Int)) with
    | true => exact ⟨_, dq_int (hyes hz), by split <;> omega⟩
    | false => exact ⟨0, hno hz, by decide⟩
  subst ec
  have xx1 := x0.trans x1
  have m0 := Int.emod_nonneg c (show (2147483629 : Int) ≠ 0 by decide)
  have m1 := Int.emod_lt_of_pos c (show (0 : Int) < 2147483629 by decide)
  refine g_set (ed_mod (K := K) (b := b) (ed_powW (ed_add (ed_add (ed_mod (ed_var (σ := [some v, some (.int k), some (.int c), none, none]) (i := 2) (d := .int c) rfl (.int c)) (ed_int (i := 2147483629)) (by decide)) (ed_mul (ed_int (i := 104729)) (ed_var (i := 1) (d := .int k) rfl (.int k)) (.inl (by decide)))) (ed_int (i := 17))) (ed_int (i := 5)) ⟨by decide, by decide, Nat.lt_of_lt_of_le (show (c % 2147483629 + 104729 * k + 17).natAbs < 2 ^ 40 by omega) (by decide)⟩) (ed_int (i := 2147483647)) (by decide)) fun vm H2 x2 hvm => ?_
  have em := dq_int hvm
  subst em
  have q0 := Int.emod_nonneg ((c % 2147483629 + 104729 * k + 17) ^ (5 : Int).toNat) (show (2147483647 : Int) ≠ 0 by decide)
  have q1 := Int.emod_lt_of_pos ((c % 2147483629 + 104729 * k + 17) ^ (5 : Int).toNat) (show (0 : Int) < 2147483647 by decide)
  generalize (c % 2147483629 + 104729 * k + 17) ^ (5 : Int).toNat % 2147483647 = mx at q0 q1
  have xx2 := xx1.trans x2
  have cnt := ed_min2 (K := K) (b := b) (ed_len (ed_var (σ := [some v, some (.int k), some (.int c), some (.int mx), none]) (i := 0) rfl (hD xx2)) (.inr (.inl rfl)) fun y e => by cases e) (ed_int (i := 60))
  rw [ll] at cnt
  have cb : 0 ≤ (if (60 : Int) < ((ns.length : Nat) : Int) then (60 : Int) else ((ns.length : Nat) : Int)) ∧ (if (60 : Int) < ((ns.length : Nat) : Int) then (60 : Int) else ((ns.length : Nat) : Int)) ≤ 60 ∧ (if (60 : Int) < ((ns.length : Nat) : Int) then (60 : Int) else ((ns.length : Nat) : Int)) ≤ ns.length := by
    split <;> omega
  generalize (if (60 : Int) < ((ns.length : Nat) : Int) then (60 : Int) else ((ns.length : Nat) : Int)) = N at cnt cb
  refine g_forR (Pv := fun i σ' H' => (∃ (m : Int) (y4 : Option V), σ' = [some v, some (.int k), some (.int c), some (.int m), y4] ∧ 0 ≤ m ∧ m < 2147483648) ∧ Ex H H') cnt (by omega) (by omega) (fun H3 x3 => ⟨⟨mx, none, rfl, q0, by omega⟩, xx2.trans x3⟩) ?_ ?_
  · intro i σ' H' hi ⟨⟨m, y4, eσ, h0, h1'⟩, xH⟩
    subst eσ
    have hi' : i < ns.length := by omega
    have at_ : atI (ns.map PyData.int) (0 + (i : Int)) = some (.int ns[i]) := by
      rw [show (0 + (i : Int)) = ((i : Nat) : Int) from Int.zero_add _]
      refine atI_nat ?_
      rw [List.getElem?_map, List.getElem?_eq_getElem hi']
      rfl
    refine g_setN (ed_mod (K := K) (b := b) (ed_add (ed_add (ed_mul (ed_var (σ := [some v, some (.int k), some (.int c), some (.int m), some (.int (0 + (i : Int)))]) (i := 3) (d := .int m) rfl (.int m)) (ed_int (i := 48271)) (.inr ⟨by decide, by decide⟩)) (ed_mul (ed_mod (ed_ixL (ed_var (i := 0) rfl (hD xH)) (ed_var (i := 4) (d := .int (0 + (i : Int))) rfl (.int _)) at_) (ed_int (i := 2147483587)) (by decide)) (ed_add (ed_var (i := 4) (d := .int (0 + (i : Int))) rfl (.int _)) (ed_int (i := 3))) (.inr ⟨by omega, by omega⟩))) (ed_var (i := 4) (d := .int (0 + (i : Int))) rfl (.int _))) (ed_int (i := 2147483629)) (by decide)) fun vm H3 x3 hvm => ?_
    have em := dq_int hvm
    subst em
    exact ⟨⟨_, _, rfl, Int.emod_nonneg _ (by decide), Int.lt_trans (Int.emod_lt_of_pos _ (by decide)) (by decide)⟩, xH.trans x3⟩
  · intro σ' H' ⟨⟨m, y4, eσ, h0, h1'⟩, xH⟩
    subst eσ
    refine g_ifSet (K := K) (b := b) (i := 2) (old := .int c) (d := .int 0) (et_t (ed_lt (K := K) (b := b) (ed_var (i := 2) (d := .int c) rfl (.int c)) pw)) (fun _ _ _ => ed_int) rfl fun vc H3 x3 hyes hno => ?_
    obtain ⟨c', ec, c0'⟩ : ∃ c' : Int, vc = .int c' ∧ 0 ≤ c' := by
      cases hz : decide (c < 1000000000000000000) with
      | true => exact ⟨_, dq_int (hyes hz), by decide⟩
      | false => exact ⟨c, hno hz, c0⟩
    subst ec
    exact fin c' m y4 H3 (xH.trans x3) c0' h0 h1'
end
end Wr

set_option Elab.async false
set_option linter.all false
set_option maxRecDepth 100000
set_option maxHeartbeats 4000000
namespace Wr
open PySem PySem.Spec PyProof.Rows L2 Evl TL
abbrev s_nm : Stmt := topS 55
abbrev NNm : List Str := ["_law_bag_here", "_law_many", "_law_letters", "_law_found", "_law_k", "_law_own", "_law_words", "_law_j", "_law_name"]
theorem sc_nm : FnScope NNm ["_law_bag_here", "_law_many"] (defScope s_nm) := ⟨rfl, rfl, rfl, by decide +kernel, rfl, by decide +kernel, by decide +kernel⟩
theorem filter_one (p : Nat → Bool) (i : Nat) : [i].filter p = if p i = true then [i] else [] := by
  rw [List.filter_cons]
  rfl
section
variable {K : PySem.W.Frag} {b : List Addr} {a : Addr} {n m k : Nat} {σ : L2.St} {H H' : Hp} {ta tb te : TE} {t : TA} {tt : TT} {ts t1 t2 : TS} {P P' : PyData → Prop} {d : PyData} {ds : List PyData} {D : Ends}
theorem eg_addT {P1 P2 : PyData → Prop} (ha : a ∈ b) (h1 : EG K b a n k ta σ H P1) (h2 : EG K b a k m tb σ H P2) (hi : ∀ d e, P1 d → P2 e → ∃ x y, d = .str x ∧ e = .str y ∧ x.length + y.length ≤ sizeLine ∧ P (.str (x ++ y))) : EG K b a n m (tOp rAddT ta tb) σ H P :=
  eg_op ha h1 h2 fun d e H1 x y Q p1 p2 _ _ hx hy q => by
    obtain ⟨u, v, rfl, rfl, hl, p⟩ := hi d e p1 p2
    exact ⟨u, v, dq_str hx, dq_str hy, hl, q _ _ H1 (Ex.refl H1) (.str _) p⟩
theorem eg_ixS {P1 P2 : PyData → Prop} (ha : a ∈ b) (h1 : EG K b a n k ta σ H P1) (h2 : EG K b a k m tb σ H P2) (hi : ∀ d e, P1 d → P2 e → ∃ z i c, d = .str z ∧ e = .int i ∧ z.length ≤ sizeLine ∧ atI z.cps.toList i = some c ∧ P (.str ⟨#[c]⟩)) : EG K b a n m (tOp rIxS ta tb) σ H P :=
  eg_op ha h1 h2 fun d e H1 x y Q p1 p2 _ _ hx hy q => by
    obtain ⟨z, i, c, rfl, rfl, hl, hc, p⟩ := hi d e p1 p2
    exact ⟨z, i, c, dq_str hx, dq_int hy, hl, hc, q _ _ H1 (Ex.refl H1) (.str _) p⟩
theorem eg_lcRD {i0 : Nat} {R : Nat → PyData → Prop} {PN : Nat → Prop} (ha : a ∈ b) (hc : EG K b a 0 0 ta σ H (fun d => ∃ N : Nat, d = .int (N : Nat) ∧ N ≤ 1000 ∧ PN N))
    (he : ∀ (D : Addr) (N i f : Nat) (H0 H1 : Hp), PN N → i < N → ExB a H H0 → H0 D = none → ExB a H0 H1 → EG K (D :: b) a 0 0 te ((wipe σ [i0]).set i0 (some (.int (i : Nat)))) H1 (R i)) :
    EG K b a 0 0 (tLc (iRng1 (tCons ta tNil)) (gName i0) tYes te [i0]) σ H (fun d => ∃ ds, d = .list ds ∧ PN ds.length ∧ ∀ i x, ds[i]? = some x → R i x) := fun H1 x1 kn bg Q q =>
  hc H1 x1 kn bg _ fun v d H2 x2 b2 hv ⟨N, e, hN, hp⟩ => by
    subst e
    have ev := dq_int hv
    subst ev
    exact (eg_lcR (K := K) (b := b) (a := a) (m := 0) (c := 0) (ta := tC (.int (N : Nat))) (σ := σ) (H := H2) (R := R) ha (fun _ _ _ => ed_int) hN fun D i f H0 H3 hi y0 hD y1 => he D N i f H0 H3 hp hi ((x1.trans x2).trans y0) hD y1) H2 (ExB.refl a H2) (x2.kn kn b2) b2 Q fun v d H3 x3 b3 hv ⟨ds, e, hl, hr⟩ => q v d H3 (x2.trans x3) b3 hv ⟨ds, e, by rw [hl]; exact hp, hr⟩
theorem eg_joinE {z : Str} {P1 : PyData → Prop} (h : EG K b a n m tb σ H P1) (hi : ∀ d, P1 d → ∃ ys : List Str, d = .list (ys.map .str) ∧ (ys.map (·.length)).sum + ys.length * z.length ≤ 16777216 ∧ P (.str (Txt.join z ys))) : EG K b a n m (tBM K "str" (rJoin K) (tC (.str z)) (tCons tb tNil)) σ H P := fun H1 x1 kn bg Q q =>
  ⟨rfl, h H1 x1 kn bg _ fun v d H2 x2 b2 hv p => by
    obtain ⟨ys, rfl, hl, hp⟩ := hi d p
    have hv' := hv.dd
    cases hv' with
    | lst h1 h2 =>
      rw [dps_strs h2] at h1
      exact ⟨z, _, ys, rfl, rfl, .inl h1, hl, q _ _ H2 x2 b2 (.str _) hp⟩⟩
theorem eg_eqJ {P1 : PyData → Prop} {u : Int} (h1 : EG K b a n m te σ H P1) (hi : ∀ d, P1 d → ∃ i, d = .int i) : EG K b a n m (tOp rEq te (tC (.int u))) σ H (fun d => ∃ c, d = .bool c) := fun H1 x1 kn bg Q q =>
  h1 H1 x1 kn bg _ fun v d H2 x2 b2 hv p => by
    obtain ⟨i, rfl⟩ := hi d p
    have e := dq_int hv
    subst e
    exact ⟨rfl, q _ _ H2 x2 b2 (.bl _) ⟨_, rfl⟩⟩
theorem eg_intB (h1 : EG K b a n m te σ H (fun d => ∃ c, d = .bool c)) : EG K b a n m (tCB rInt1 (tCons te tNil)) σ H (IntB 2) := fun H1 x1 kn bg Q q =>
  h1 H1 x1 kn bg _ fun v d H2 x2 b2 hv p => by
    obtain ⟨c, rfl⟩ := p
    refine .inr ⟨c, by rw [dq_bl hv], q _ _ H2 x2 b2 (.int _) ⟨_, rfl, ?_, ?_⟩⟩ <;> cases c <;> decide
theorem g_appG {j : Nat} {F : Addr} {vs : List V} {P1 : PyData → Prop} (hσ : σ[j]? = some (some (.ref F))) (hFa : F ≠ a) (hF : H F = some (.lst vs)) (hl : vs.length < 10000000) (he : EG K b a n m te σ H P1) (kn : Kn b H) (bg : Bag a n H) (kk : ∀ y d H', ExB a H H' → Bag a m H' → Dq K b H' y d → P1 d → D.nx σ (upd H' F (.lst (vs ++ [y])))) : tDrop (tBM K "list" rAppend (tVar j) (tCons te tNil)) D σ H :=
  ⟨.ref F, hσ, .inl ⟨rfl, _, .inl (.inl hF)⟩, he H (ExB.refl a H) kn bg _ fun y d H' x bg' hy p => ⟨F, vs, y, rfl, rfl, x _ _ hFa hF, by rw [sizeLine_eq]; omega, kk y d H' x bg' hy p⟩⟩
/-- [.. for i, x in enumerate(list) if ..], flat items -/
theorem ed_lcEL {k1 k2 : Nat} {f : Nat → PyData → PyData} {p : Nat → PyData → Bool} (kn : Kn b H) (ha : ED K b ta σ H (.list ds)) (hl : ds.length < sizeLine)
    (hw : ∀ x y, wipe (((wipe σ [k1, k2]).set k1 x).set k2 y) [k1, k2] = wipe σ [k1, k2])
    (hp : ∀ i d v H3, ds[i]? = some d → Ex H H3 → Dq K b H3 v d → EvT tt (((wipe σ [k1, k2]).set k1 (some (.int (i : Nat)))).set k2 (some v)) H3 (p i d))
    (he : ∀ i d v H3, ds[i]? = some d → Ex H H3 → Dq K b H3 v d → ED K b te (((wipe σ [k1, k2]).set k1 (some (.int (i : Nat)))).set k2 (some v)) H3 (f i d)) (hf : ∀ i d, ds[i]? = some d → flatP (f i d) = true) :
    ED K b (tLc (iEnum K (tCons ta tNil)) (gTup K 2 (gCons (gName k1) (gCons (gName k2) gNil))) tt te [k1, k2]) σ H (.list (((List.range ds.length).filter fun i => p i (ds.getD i .none)).map fun i => f i (ds.getD i .none))) := fun H1 x1 Q q =>
  ha H1 x1 _ fun x H2 x2 hx => by
    cases hx with
    | @lst a xs _ h1 h2 =>
      have hlen := dps_len h2
      refine ⟨a, xs, rfl, ex_l hid_le h1, fun D hD => ?_⟩
      refine lc_it walk_enum (fun i H3 => Ex H2 H3 ∧ H3 D = some (.lst ((((List.range i).filter fun i => p i (ds.getD i .none)).map fun i => f i (ds.getD i .none)).map vOf))) ⟨Ex.new hD, upd_same⟩ (fun i H3 _ h => ex_l h.1 (ex_l hid_le h1)) ?_ ?_
      · intro i x H3 H3' hi ⟨x3, e3⟩ ⟨T, y1, y2, ex, nT, eH, g1, g2⟩
        subst ex eH
        have e1 : y1 = .int (i : Nat) := (Option.some.inj g1).symm
        subst e1
        obtain ⟨d, gd, dd⟩ := dps_at h2 g2
        have xT : Ex H3 (upd H3 T (.tup [.int (i : Nat), y2])) := Ex.new nT
        have hg : ds.getD i .none = d := by rw [List.getD_eq_getElem?_getD, gd, Option.getD_some]
        refine ⟨T, [.int (i : Nat), y2], rfl, .inl (.inl upd_same), rfl, _, _, rfl, _, _, rfl, rfl, hw _ _, ?_⟩
        have xa : Ex H2 (upd H3 T (.tup [.int (i : Nat), y2])) := x3.trans xT
        refine hp i d y2 (upd H3 T (.tup [.int (i : Nat), y2])) gd ((x1.trans x2).trans xa) (Dq.up dd xa) _ (Ex.refl _) _ fun H4 x4 => ?_
        have x3' : Ex H2 H4 := xa.trans x4
        cases hpi : p i d with
        | false =>
          rw [if_neg Bool.false_ne_true]
          refine ⟨x3', ?_⟩
          rw [List.range_succ, List.filter_append, filter_one, hg, hpi, if_neg Bool.false_ne_true, List.append_nil]
          exact x4 _ _ (xT _ _ e3)
        | true =>
          rw [if_pos rfl]
          refine he i d y2 _ gd ((x1.trans x2).trans x3') (Dq.up dd x3') _ (Ex.refl _) _ fun y H5 x5 hy => ?_
          have ey := dp_flat hy (hf i d gd)
          refine ⟨_, x5 _ _ (x4 _ _ (xT _ _ e3)), ?_, Ex.mut (x3'.trans x5) hD, ?_⟩
          · rw [List.length_map, List.length_map]
            have : xs.length < sizeLine := by rw [hlen]; exact hl
            have h3 := List.length_filter_le (fun i => p i (ds.getD i .none)) (List.range i)
            rw [List.length_range] at h3
            omega
          · rw [upd_same, List.range_succ, List.filter_append, filter_one, hg, hpi, if_pos rfl, List.map_append, List.map_append, ey]
            show some (HO.lst (_ ++ [vOf (f i d)])) = some (HO.lst (_ ++ [vOf (f i (ds.getD i .none))]))
            rw [hg]
      · intro H3 ⟨x3, e3⟩
        rw [hlen] at e3
        refine q _ H3 (x2.trans x3) (.lst (.inl (.inl ?_)) (flats_dp fun d hd => ?_))
        · rw [hid_ne ((kn.up (x1.trans x2)).new hD)]
          exact e3
        · obtain ⟨i, hi, rfl⟩ := List.mem_map.mp hd
          have hi' := List.mem_range.mp (List.mem_filter.mp hi).1
          have g1 : ds[i]? = some ds[i] := List.getElem?_eq_getElem hi'
          have := hf i _ g1
          simp only [List.getD_eq_getElem?_getD, g1, Option.getD_some]
          exact this
end
theorem cut_to (ds : List PyData) (i : Nat) : cutD ds none (some (i : Int)) = ds.take i := by
  unfold cutD
  have e1 : HT.sIx ds.length 0 none = 0 := rfl
  have e2 : HT.sIx ds.length ds.length (some (i : Int)) = min i ds.length := by
    show (if (i : Int) < 0 then ((i : Int) + (ds.length : Int)).toNat else min (i : Int).toNat ds.length) = _
    rw [if_neg (by omega)]
    rfl
  rw [e1, e2, List.drop_zero, Nat.sub_zero]
  by_cases hc : i ≤ ds.length
  · rw [Nat.min_eq_left hc]
  · rw [Nat.min_eq_right (by omega), List.take_of_length_le (Nat.le_refl _), List.take_of_length_le (by omega)]
/-! ### each once -/
def ddS (xs : List Str) : List Str := ((List.range xs.length).filter fun i => !decide (xs.getD i "" ∈ xs.take i)).map fun i => xs.getD i ""
theorem ddS_mem {xs : List Str} {x : Str} (h : x ∈ ddS xs) : x ∈ xs := by
  obtain ⟨i, hi, rfl⟩ := List.mem_map.mp h
  have hi' := List.mem_range.mp (List.mem_filter.mp hi).1
  rw [List.getD_eq_getElem?_getD, List.getElem?_eq_getElem hi', Option.getD_some]
  exact List.getElem_mem hi'
theorem ddS_len (xs : List Str) : (ddS xs).length ≤ xs.length := by
  unfold ddS
  rw [List.length_map]
  have h := List.length_filter_le (fun i => !decide (xs.getD i "" ∈ xs.take i)) (List.range xs.length)
  rw [List.length_range] at h
  exact h
theorem ddS_ne {xs : List Str} (h : 1 ≤ xs.length) : 1 ≤ (ddS xs).length := by
  have : (0 : Nat) ∈ (List.range xs.length).filter fun i => !decide (xs.getD i "" ∈ xs.take i) := List.mem_filter.mpr ⟨List.mem_range.mpr h, by simp⟩
  unfold ddS
  rw [List.length_map]
  exact List.length_pos_of_mem this
theorem ddS_nodup (xs : List Str) : (ddS xs).Nodup := by
  unfold ddS
  show List.Pairwise (· ≠ ·) _
  rw [List.pairwise_map]
  refine List.Pairwise.imp_of_mem ?_ ((List.pairwise_lt_range (n := xs.length)).filter _)
  intro i j hi hj hlt e
  have hj' := List.mem_filter.mp hj
  have hi' := List.mem_range.mp (List.mem_filter.mp hi).1
  have hjn : decide (xs.getD j "" ∈ xs.take j) = false := by simpa using hj'.2
  refine of_decide_eq_false hjn ?_
  rw [← e, List.getD_eq_getElem?_getD, List.getElem?_eq_getElem hi', Option.getD_some]
  refine List.mem_of_getElem? (i := i) ?_
  rw [List.getElem?_take_of_lt hlt, List.getElem?_eq_getElem hi']
/-! ### the drawn names -/
theorem abc_at {i : Int} (h0 : 0 ≤ i) (h1 : i < 26) : atI abc.cps.toList i = some (97 + i.toNat) := by
  have e : abc.cps.toList = (List.range 26).map (· + 97) := by decide +kernel
  have q := atI_nat (xs := abc.cps.toList) (j := i.toNat) (v := 97 + i.toNat) (by
    rw [e, List.getElem?_map, List.getElem?_range (by omega)]
    show some (i.toNat + 97) = some (97 + i.toNat)
    rw [Nat.add_comm])
  rw [Int.toNat_of_nonneg h0] at q
  exact q
theorem fold_signs : ∀ (cs : List Nat) (acc : Array Nat), (cs.map fun c => (⟨#[c]⟩ : Str)).foldl (fun acc p => acc ++ (Str.ofString "").cps ++ p.cps) acc = acc ++ cs.toArray
  | [], acc => by simp
  | c :: cs, acc => by
    rw [List.map_cons, List.foldl_cons, fold_signs cs]
    have e : (Str.ofString "").cps = #[] := by decide +kernel
    rw [e]
    simp
theorem join_signs (cs : List Nat) : Txt.join "" (cs.map fun c => (⟨#[c]⟩ : Str)) = ⟨cs.toArray⟩ := by
  cases cs with
  | nil => decide +kernel
  | cons c r =>
    show (⟨(r.map fun c => (⟨#[c]⟩ : Str)).foldl (fun acc p => acc ++ (Str.ofString "").cps ++ p.cps) #[c]⟩ : Str) = _
    rw [fold_signs]
    congr 1
    simp
def AzC (d : PyData) : Prop := ∃ c, d = .str ⟨#[c]⟩ ∧ 97 ≤ c ∧ c ≤ 122
theorem az_list : ∀ {ds : List PyData}, (∀ d ∈ ds, AzC d) → ∃ cs : List Nat, ds = (cs.map fun c => (⟨#[c]⟩ : Str)).map .str ∧ ∀ c ∈ cs, 97 ≤ c ∧ c ≤ 122
  | [], _ => ⟨[], rfl, fun c hc => by cases hc⟩
  | d :: ds, h => by
    obtain ⟨c, rfl, h1, h2⟩ := h d List.mem_cons_self
    obtain ⟨cs, rfl, h3⟩ := az_list fun e he => h e (List.mem_cons_of_mem _ he)
    refine ⟨c :: cs, rfl, fun c' hc' => ?_⟩
    rcases List.mem_cons.mp hc' with rfl | hc'
    · exact ⟨h1, h2⟩
    · exact h3 c' hc'
theorem name_of {x : Str} (h1 : 1 ≤ (tl x).length) (h2 : (tl x).length ≤ 8) (h : ∀ c ∈ tl x, 97 ≤ c ∧ c ≤ 122) : nameS x = true := by
  rw [nameS_az]
  unfold azS
  have e := len_tl x
  rw [decide_eq_true (show 1 ≤ x.length ∧ x.length < 9 by omega), Bool.true_and]
  exact List.all_eq_true.mpr fun c hc => decide_eq_true ((abc_mem c).mpr (h c hc))
def wd8 : List Str := ["part", "put", "back", "x", "add", "go", "abcdefgh", "say"]
theorem wd8_ok : wd8.all nameS = true := by decide +kernel
theorem eight_at : ∀ i : Nat, i < 8 → ∃ c, atI ("abcdefgh" : Str).cps.toList (i : Int) = some c ∧ 97 ≤ c ∧ c ≤ 122 := by
  intro i hi
  have e : ("abcdefgh" : Str).cps.toList = [97, 98, 99, 100, 101, 102, 103, 104] := by decide +kernel
  have : i = 0 ∨ i = 1 ∨ i = 2 ∨ i = 3 ∨ i = 4 ∨ i = 5 ∨ i = 6 ∨ i = 7 := by omega
  rw [e]
  rcases this with h | h | h | h | h | h | h | h <;> subst h
  · exact ⟨97, atI_nat (j := 0) rfl, by decide, by decide⟩
  · exact ⟨98, atI_nat (j := 1) rfl, by decide, by decide⟩
  · exact ⟨99, atI_nat (j := 2) rfl, by decide, by decide⟩
  · exact ⟨100, atI_nat (j := 3) rfl, by decide, by decide⟩
  · exact ⟨101, atI_nat (j := 4) rfl, by decide, by decide⟩
  · exact ⟨102, atI_nat (j := 5) rfl, by decide, by decide⟩
  · exact ⟨103, atI_nat (j := 6) rfl, by decide, by decide⟩
  · exact ⟨104, atI_nat (j := 7) rfl, by decide, by decide⟩
def NmPre (ds : List PyData) : Prop := ∃ m : Nat, ds = [.int (m : Nat)] ∧ m ≤ 8
def NmR (ds : List PyData) (d : PyData) : Prop := ∃ (m : Nat) (xs : List Str), ds = [.int (m : Nat)] ∧ d = .list (xs.map .str) ∧ xs.length ≤ m ∧ (1 ≤ m → 1 ≤ xs.length) ∧ xs.all nameS = true ∧ xs.Nodup
abbrev spNm (K : PySem.W.Frag) : Sp := spG K 0 NmPre NmR
theorem len_signs (cs : List Nat) : ((cs.map fun c => (⟨#[c]⟩ : Str)).map (·.length)).sum = cs.length := by
  induction cs with
  | nil => rfl
  | cons c r ih =>
    rw [List.map_cons, List.map_cons, List.sum_cons, ih, List.length_cons]
    show 1 + r.length = r.length + 1
    omega
section
variable {P : Program} {w : World} {K : PySem.W.Frag} {mg : Str → Option Value} {base : Heap} {f g : Addr} {fd gd : FuncData}
theorem ok_nm (D : Def K mg "_law_names" s_nm ["_law_bag_here", "_law_many"] f fd) (Dt : Def K mg "_law_take" s_take ["_law_bag_here", "_law_many"] g gd) (B : Blt mg) : FnOk P w K mg base CX0 2 f fd ["_law_bag_here", "_law_many"] (spNm K) := by
  refine D.F.ok sc_nm (fun vs H Q E h => spG_len (fun ds ⟨m, e, _⟩ => by rw [e]; rfl) h) (fun cdv A outer s H vs Q E hr h => ?_)
  obtain ⟨b, a, k, ws, ds, rfl, hab, kn, bg, hd, ⟨m, rfl, m8⟩, q⟩ := h
  obtain ⟨v, d, rfl, ed, hv⟩ := one_of hd rfl
  cases ed
  have ev := dq_int hv
  subst ev
  have bg : Bag a 0 H := bg
  refine ⟨_, pss_cons (ps_set (i := 2) sc_nm.nd rfl (Or.inr rfl) pe_str)
    (pss_cons (ps_set (i := 3) sc_nm.nd rfl (Or.inr rfl) (pe_lst pa_nil))
    (pss_cons (ps_for PassesOwn.never rfl (pi_range1 rfl B.range (pa_cons (pv 1) pa_nil)) (pg_name (i := 4) sc_nm.nd rfl (Or.inl rfl)) (pss_cons (ps_set (i := 5) sc_nm.nd rfl (Or.inl rfl) (pe_op op_addT (pe_bm PySem.F.plainAttrs_str PySem.F.slot_str_join PySem.F.type_str_join mt_joinD pe_str (pa_cons (pe_lc (own := [("_law_j", 7)]) (g := gName 7) (tt := tYes) rfl sc_nm.nd (pi_range1 rfl B.range (pa_cons (pe_cd Dt (ok_take Dt) hr (pa_cons (pv 0) (pa_cons pe_int pa_nil))) pa_nil)) (blkOk_by (N := NNm) (sc := defScope s_nm) (by decide +kernel)) (fun _ _ _ _ _ => (pg_name (i := 7) sc_nm.nd rfl (Or.inl rfl))) (fun _ _ _ _ _ => pts_nil) (fun _ _ _ _ _ => (pe_ix (r := rIxS) ix_str (pv 2) (pe_cd Dt (ok_take Dt) hr (pa_cons (pv 0) (pa_cons pe_int pa_nil))) (fun _ _ => rfl)))) pa_nil)) (pe_ix ix_str pe_str (pv 4) (fun _ _ => rfl))))
    (pss_cons (ps_set (i := 6) sc_nm.nd rfl (Or.inl rfl) (pe_lst (pa_cons pe_str (pa_cons pe_str (pa_cons pe_str (pa_cons pe_str (pa_cons pe_str (pa_cons pe_str (pa_cons pe_str (pa_cons pe_str pa_nil))))))))))
    (pss_one (ps_expr (pe_bm PySem.F.plainAttrs_list PySem.F.slot_list_append PySem.F.type_list_append mt_append (pv 3) (pa_cons (pe_ix ix_list (pe_lst (pa_cons (pv 5) (pa_cons (pe_ix ix_list (pv 6) (pv 4) (fun _ _ => rfl)) pa_nil))) (pe_callTy call_intB rfl B.int bt_int (pa_cons (pe_cmpR op_eq (pe_cd Dt (ok_take Dt) hr (pa_cons (pv 0) (pa_cons pe_int pa_nil))) pe_int (nomark _)) pa_nil)) (fun _ _ => rfl)) pa_nil)))))))
    (pss_one (ps_ret (pe_lc (own := [("_law_k", 4), ("_law_name", 8)]) (g := gTup K 2 (gCons (gName 4) (gCons (gName 8) gNil))) (tt := (tTest (tOp (rNotInD K) (tVar 8) (tSl (rSlL K) (tVar 3) tNoPart (tPart (tVar 4)))))) rfl sc_nm.nd (pi_enum rfl B.enum (pa_cons (pv 3) pa_nil)) (blkOk_by (N := NNm) (sc := defScope s_nm) (by decide +kernel)) (fun _ _ _ _ _ => (pg_tup rfl (pgs_cons (pg_name (i := 4) sc_nm.nd rfl (Or.inl rfl)) (pgs_cons (pg_name (i := 8) sc_nm.nd rfl (Or.inl rfl)) pgs_nil)))) (fun _ _ _ _ _ => (pts_one (pt_cmpR (r := rNotInD K) (op_notInD (hu65 hr)) (pv 8) (pe_slice (r := rSlL K) sl_list (pv 3) po_none (po_some (pv 4))) rfl))) (fun _ _ _ _ _ => (pv 8))))))), ?_⟩
  have hsl : sizeLine = 16777216 := sizeLine_eq
  refine g_set (ed_str (K := K) (b := b) (x := abc)) fun v2 H1 x1 hv2 => ?_
  have e2 := dq_str hv2
  subst e2
  refine ⟨by decide, fun F hF => ?_⟩
  have hF0 : H F = none := fresh_back x1 hF
  have x2 : Ex H (upd H1 F (.lst [])) := x1.trans (Ex.new hF)
  have eF : (upd H1 F (.lst [])) F = some (.lst []) := upd_same
  generalize upd H1 F (.lst []) = H2 at x2 eF
  have hFa : F ≠ a := fun z => bg.there (z ▸ hF0)
  have hFb : F ∉ b := kn.new hF0
  refine g_forR (K := K) (b := b) (N := (m : Nat)) (fun i σ' H' => ∃ (xs : List Str) (u4 u5 u6 : Option V), σ' = [some (.ref a), some (.int (m : Nat)), some (.str abc), some (.ref F), u4, u5, u6, none, none] ∧ ExB a H H' ∧ Kn b H' ∧ Bag a 0 H' ∧ H' F = some (.lst (xs.map V.str)) ∧ xs.length = i ∧ xs.all nameS = true) (ed_var (σ := [some (.ref a), some (.int (m : Nat)), some (.str abc), some (.ref F), none, none, none, none, none]) (i := 1) rfl (.int _)) (by omega) (by omega) (fun H3 x3 => ⟨[], none, none, none, rfl, exb (x2.trans x3), kn.up (x2.trans x3), bg.ex (x2.trans x3), x3 _ _ eF, rfl, rfl⟩) ?_ ?_
  · intro i σ' H3 hi ⟨xs, u4, u5, u6, es, x3, kn3, bg3, eF3, hl, hnm⟩
    subst es
    have hi : i < m := hi
    show tSeq _ _ _ [some (.ref a), some (.int (m : Nat)), some (.str abc), some (.ref F), some (.int (0 + (i : Int))), u5, u6, none, none] H3
    rw [Int.zero_add]
    obtain ⟨c8, hc8, h97, h122⟩ := eight_at i (by omega)
    -- own
    have lc := eg_lcRD (K := K) (b := b) (a := a) (σ := [some (.ref a), some (.int (m : Nat)), some (.str abc), some (.ref F), some (.int (i : Nat)), u5, u6, none, none]) (H := H3) (i0 := 7) (te := tOp rIxS (tVar 2) (tCall (spTake K) [] E0 (tCons (tVar 0) (tCons (tC (.int 26)) tNil)))) (R := fun _ => AzC) (PN := fun N => N ≤ 7) hab ((eg_take (E := E0) (i := 0) (u := 8) hab rfl (by decide) (by decide)).imp fun d ⟨r, e, h0, h1⟩ => ⟨r.toNat, by rw [Int.toNat_of_nonneg h0]; exact e, by omega, by omega⟩)
      fun D N j f' H0 H4 _ _ _ _ _ => eg_ixS (P1 := fun d => d = .str abc) (List.mem_cons_of_mem _ hab) (eg_pure (fun _ _ _ => ed_var (i := 2) rfl (.str abc)) rfl) (eg_take (i := 0) (u := 26) (List.mem_cons_of_mem _ hab) rfl (by decide) (by decide)) fun d e hd ⟨r, er, h0, h1⟩ => ⟨abc, r, 97 + r.toNat, hd, er, by decide +kernel, abc_at h0 h1, 97 + r.toNat, rfl, by omega, by omega⟩
    have jn := eg_joinE (z := "") (P := fun d => ∃ x : Str, d = .str x ∧ (tl x).length ≤ 7 ∧ ∀ c ∈ tl x, 97 ≤ c ∧ c ≤ 122) lc fun d ⟨ds, e, hN, hR⟩ => by
      obtain ⟨cs, e2, hcs⟩ := az_list (ds := ds) fun x hx => by
        obtain ⟨j, hj⟩ := List.mem_iff_getElem?.mp hx
        exact hR j x hj
      refine ⟨cs.map fun c => (⟨#[c]⟩ : Str), by rw [e, e2], ?_, ⟨cs.toArray⟩, by rw [join_signs], ?_, hcs⟩
      · rw [len_signs]
        have e0 : ("" : Str).length = 0 := by decide +kernel
        rw [e0, Nat.mul_zero]
        have : ds.length = cs.length := by rw [e2, List.length_map, List.length_map]
        omega
      · show cs.toArray.toList.length ≤ 7
        have : ds.length = cs.length := by rw [e2, List.length_map, List.length_map]
        rw [List.toList_toArray]
        omega
    have own := eg_addT (P := fun d => ∃ x : Str, d = .str x ∧ nameS x = true) (P2 := fun d => d = .str ⟨#[c8]⟩) hab jn (eg_pure (fun _ _ _ => ed_ixS (K := K) (b := b) (ed_str (x := "abcdefgh")) (ed_var (i := 4) (d := .int (i : Nat)) rfl (.int _)) (by decide +kernel) hc8) rfl) fun d e ⟨x, ex, hxl, hxc⟩ ee => by
      refine ⟨x, ⟨#[c8]⟩, ex, ee, ?_, _, rfl, name_of ?_ ?_ ?_⟩
      · rw [len_tl x]
        show (tl x).length + 1 ≤ sizeLine
        omega
      · rw [tl_append, List.length_append]
        show 1 ≤ _ + 1
        omega
      · rw [tl_append, List.length_append]
        show _ + 1 ≤ 8
        omega
      · intro c hc
        rw [tl_append] at hc
        rcases List.mem_append.mp hc with hc | hc
        · exact hxc c hc
        · rw [List.mem_singleton.mp hc]
          exact ⟨h97, h122⟩
    refine g_setG own kn3 bg3 fun vo do' H4 x4 bg4 kn4 hvo ⟨xo, edo, hxo⟩ => ?_
    subst edo
    have evo := dq_str hvo
    subst evo
    -- words
    refine g_set (ed_lst (K := K) (b := b) (ds := wd8.map .str) kn4 (ea_cons (ed_str (x := "part")) (ea_cons (ed_str (x := "put")) (ea_cons (ed_str (x := "back")) (ea_cons (ed_str (x := "x")) (ea_cons (ed_str (x := "add")) (ea_cons (ed_str (x := "go")) (ea_cons (ed_str (x := "abcdefgh")) (ea_cons (ed_str (x := "say")) ea_nil)))))))) (by decide)) fun vw H5 x5 hvw => ?_
    have kn5 := kn4.up x5
    have bg5 := bg4.ex x5
    obtain ⟨wi, hwi⟩ : ∃ wi, wd8[i]? = some wi := ⟨_, List.getElem?_eq_getElem (show i < 8 by omega)⟩
    have hwn : nameS wi = true := List.all_eq_true.mp wd8_ok wi (List.mem_of_getElem? hwi)
    have ch := eg_ixL (K := K) (b := b) (a := a) (n := 0) (k := 0) (m := 0) (σ := [some (.ref a), some (.int (m : Nat)), some (.str abc), some (.ref F), some (.int (i : Nat)), some (.str xo), some vw, none, none]) (H := H5) (P := fun d => ∃ x : Str, d = .str x ∧ nameS x = true) (P1 := fun d => d = .list [.str xo, .str wi]) hab (eg_pure (fun H6 x6 kn6 => ed_lst kn6 (ea_cons (ed_var (i := 5) rfl (.str xo)) (ea_cons (ed_ixL (ed_var (i := 6) rfl (Dq.upB hab hvw x6)) (ed_var (i := 4) (d := .int (i : Nat)) rfl (.int _)) (atI_nat (j := i) (by rw [List.getElem?_map, hwi]; rfl))) ea_nil)) (sz2 (by decide))) rfl)
      (eg_intB (eg_eqJ (u := 0) (eg_take (E := E0) (i := 0) (u := 3) hab rfl (by decide) (by decide)) fun d ⟨r, e, _⟩ => ⟨r, e⟩)) fun d e hd he => by
        obtain ⟨j, z, h1, h2, h3⟩ := intB_at (ds := [.str xo, .str wi]) he (Int.le_refl 2)
        refine ⟨_, j, z, hd, h1, h2, ?_⟩
        rcases List.mem_cons.mp h3 with e | h3
        · exact ⟨xo, e, hxo⟩
        · exact ⟨wi, List.mem_singleton.mp h3, hwn⟩
    refine g_appG (vs := xs.map V.str) (j := 3) rfl hFa (x5 _ _ (x4 _ _ hFa eF3)) (by rw [List.length_map]; omega) ch kn5 bg5 fun y d H6 x6 bg6 hy ⟨x, e, hx⟩ => ?_
    subst e
    have ey := dq_str hy
    subst ey
    refine ⟨xs ++ [x], _, _, _, rfl, ?_, ?_, ?_, ?_, ?_, ?_⟩
    · intro c o hc h
      have hcF : c ≠ F := fun z => by rw [z, hF0] at h; cases h
      rw [upd_ne hcF]
      exact x6 c o hc (x5 c o (x4 c o hc (x3 c o hc h)))
    · intro z hz
      have hzF : z ≠ F := fun e => hFb (e ▸ hz)
      rw [upd_ne hzF]
      exact x6.kn kn5 bg6 z hz
    · obtain ⟨g', x', h1, r'⟩ := bg6
      exact ⟨g', x', by rw [upd_ne (Ne.symm hFa)]; exact h1, r'⟩
    · rw [upd_same, List.map_append]
      rfl
    · rw [List.length_append, hl]
      rfl
    · rw [List.all_append, hnm, Bool.true_and]
      show (nameS x && true) = true
      rw [hx]
      rfl
  · intro σ' H3 ⟨xs, u4, u5, u6, es, x3, kn3, bg3, eF3, hl, hnm⟩
    subst es
    have hl : xs.length = m := hl
    have dF : Dq K b H3 (.ref F) (.list (xs.map .str)) := .lst (.inl (.inl (by rw [hid_ne hFb]; exact eF3))) (strs_dps xs)
    have hsx : xs.all PyData.strOk = true := List.all_eq_true.mpr fun x hx => name_strOk (List.all_eq_true.mp hnm x hx)
    have lc := ed_lcEL (K := K) (b := b) (σ := [some (.ref a), some (.int (m : Nat)), some (.str abc), some (.ref F), u4, u5, u6, none, none]) (H := H3) (k1 := 4) (k2 := 8) (tt := tTest (tOp (rNotInD K) (tVar 8) (tSl (rSlL K) (tVar 3) tNoPart (tPart (tVar 4))))) (te := tVar 8) (f := fun _ d => d) (p := fun i d => !inD d ((xs.take i).map .str)) kn3 (ed_var (i := 3) rfl dF) (by rw [List.length_map]; omega) (fun _ _ => rfl) (fun i d v H4 hd x4 hv => by
      have hsub : (xs.take i).all PyData.strOk = true := List.all_eq_true.mpr fun x hx => List.all_eq_true.mp hsx x (List.mem_of_mem_take hx)
      obtain ⟨y, hy, ey⟩ : ∃ y, y ∈ xs ∧ d = .str y := by
        rw [List.getElem?_map] at hd
        cases z : xs[i]? with
        | none => rw [z] at hd; cases hd
        | some y => rw [z] at hd; exact ⟨y, List.mem_of_getElem? z, (Option.some.inj hd).symm⟩
      subst ey
      refine et_t (ed_ninL (ed_var (i := 8) rfl hv) ((ed_slL (kn3.up x4) (ed_var (i := 3) rfl (Dq.up dF x4)) eo_none (eo_some (K := K) (b := b) (ed_var (i := 4) (d := .int (i : Nat)) rfl (.int _)))).to (e := .list ((xs.take i).map .str)) ?_) (sh_str (List.all_eq_true.mp hsx y hy)) (sh_strs hsub).2)
      show PyData.list (cutD (xs.map PyData.str) none (some ((i : Nat) : Int))) = _
      rw [cut_to, List.map_take]) (fun i d v H4 hd x4 hv => ed_var (i := 8) rfl hv) (fun i d hd => by
      rw [List.getElem?_map] at hd
      cases z : xs[i]? with
      | none => rw [z] at hd; cases hd
      | some y => rw [z] at hd; rw [← Option.some.inj hd]; rfl)
    have lc2 := lc.to (e := .list ((ddS xs).map .str)) (by
      congr 1
      unfold ddS
      rw [List.length_map, List.map_map]
      have gd : ∀ i ∈ List.range xs.length, (xs.map PyData.str).getD i .none = .str (xs.getD i "") := fun i hi => by
        have hi' := List.mem_range.mp hi
        rw [List.getD_eq_getElem?_getD, List.getD_eq_getElem?_getD, List.getElem?_map, List.getElem?_eq_getElem hi']
        rfl
      have ef : (List.range xs.length).filter (fun i => !inD ((xs.map PyData.str).getD i .none) ((xs.take i).map .str)) = (List.range xs.length).filter fun i => !decide (xs.getD i "" ∈ xs.take i) := by
        refine List.filter_congr fun i hi => ?_
        rw [gd i hi, inD_str]
      rw [ef]
      refine List.map_congr_left fun i hi => ?_
      exact gd i (List.mem_filter.mp hi).1)
    refine lc2 H3 (Ex.refl H3) _ fun v H4 x4 hv => ?_
    refine q _ _ H4 (x3.trans (exb x4)) (bg3.ex x4) hv ⟨m, ddS xs, rfl, rfl, by have := ddS_len xs; omega, fun h1 => ddS_ne (by omega), ?_, ddS_nodup xs⟩
    exact List.all_eq_true.mpr fun x hx => List.all_eq_true.mp hnm x (ddS_mem hx)
end
end Wr

set_option Elab.async false
set_option linter.all false
set_option maxRecDepth 100000
set_option maxHeartbeats 4000000
namespace Wr
open PySem PySem.Spec PyProof.Rows L2 Evl TL
abbrev s_wo : Stmt := topS 56
abbrev s_ro : Stmt := topS 57
abbrev NWo : List Str := ["_law_bag_here", "_law_way", "_law_great"]
theorem sc_wo : FnScope NWo ["_law_bag_here"] (defScope s_wo) := ⟨rfl, rfl, rfl, by decide +kernel, rfl, by decide +kernel, by decide +kernel⟩
abbrev NRo : List Str := ["_law_bag_here", "_law_parts", "_law_at", "_law_many", "_law_way", "_law_goal", "_law_word", "_law_words"]
theorem sc_ro : FnScope NRo ["_law_bag_here", "_law_parts", "_law_at", "_law_many"] (defScope s_ro) := ⟨rfl, rfl, rfl, by decide +kernel, rfl, by decide +kernel, by decide +kernel⟩
/-! ### what a row of such a part is -/
def RwIn (called : List Str) (at_ many : Nat) : Rw → Prop
  | .lone w => w ∈ loneW
  | .nm w x => ((w = "call" ∧ x ∈ called) ∨ w ∈ nameW) ∧ nameS x = true
  | .num w i => (w = "put" ∧ i.natAbs ≤ 1000000000000) ∨ (w ∈ rowW ∧ 0 ≤ i ∧ i < many ∧ ¬ (w = "try" ∧ i = at_ + 1))
theorem RwIn.ok {called : List Str} {at_ many : Nat} (hm : many ≤ 60) {r : Rw} (h : RwIn called at_ many r) : RwOk r := by
  cases r with
  | lone w => exact h
  | nm w x =>
    obtain ⟨h1, h2⟩ : ((w = "call" ∧ x ∈ called) ∨ w ∈ nameW) ∧ nameS x = true := h
    refine ⟨?_, h2⟩
    rcases h1 with ⟨e, _⟩ | e
    · exact .inl e
    · exact .inr e
  | num w i =>
    have h : (w = "put" ∧ i.natAbs ≤ 1000000000000) ∨ (w ∈ rowW ∧ 0 ≤ i ∧ i < many ∧ ¬ (w = "try" ∧ i = at_ + 1)) := h
    rcases h with h | ⟨h1, h2, h3, _⟩
    · exact .inl ⟨h.1, by have := h.2; omega⟩
    · exact .inr ⟨h1, h2, by omega⟩
theorem row_tab : (nameW.all fun w => !decide (w = "put")) = true ∧ (rowW.all fun w => !(decide (w = "put") || decide (w ∈ nameW) || decide (w = "call"))) = true ∧ (decide (("call" : Str) = "put") || decide (("call" : Str) ∈ nameW)) = false := by
  refine ⟨?_, ?_, ?_⟩ <;> decide +kernel
theorem rowD_pair (w : Str) (c : PyData) (at_ many : Int) (called : List Str) : rowD (.tuple [.str w, c]) at_ many called =
    if decide (w = "put") = true then worthD c else if decide (w ∈ nameW) = true then nameD c else if decide (w = "call") = true then inD c (called.map .str)
    else decide (w ∈ rowW) && (indexD c many && !(decide (w = "try") && PyData.eqv c (.int (at_ + 1)))) := by
  show (if PyData.eqv (.str w) (.str "put") = true then worthD c else if inD (.str w) (nameW.map .str) = true then nameD c else if PyData.eqv (.str w) (.str "call") = true then inD c (called.map .str)
    else inD (.str w) (rowW.map .str) && (indexD c many && !(PyData.eqv (.str w) (.str "try") && PyData.eqv c (.int (at_ + 1))))) = _
  rw [strEq, strEq, strEq, inD_str, inD_str]
theorem RwIn.row {called : List Str} {at_ many : Nat} {r : Rw} (h : RwIn called at_ many r) : rowD r.d at_ many called = true := by
  cases r with
  | lone w =>
    have h : w ∈ loneW := h
    show inD (.str w) (loneW.map .str) = true
    rw [inD_str, decide_eq_true h]
  | nm w x =>
    obtain ⟨h1, h2⟩ : ((w = "call" ∧ x ∈ called) ∨ w ∈ nameW) ∧ nameS x = true := h
    show rowD (.tuple [.str w, .str x]) at_ many called = true
    rw [rowD_pair]
    rcases h1 with ⟨e, hx⟩ | e
    · subst e
      have q := row_tab.2.2
      rw [Bool.or_eq_false_iff] at q
      rw [q.1, q.2, if_neg Bool.false_ne_true, if_neg Bool.false_ne_true, decide_eq_true rfl, if_pos rfl, inD_str, decide_eq_true hx]
    · have q := List.all_eq_true.mp row_tab.1 w e
      rw [Bool.not_eq_true'] at q
      rw [q, if_neg Bool.false_ne_true, decide_eq_true e, if_pos rfl]
      exact h2
  | num w i =>
    have h : (w = "put" ∧ i.natAbs ≤ 1000000000000) ∨ (w ∈ rowW ∧ 0 ≤ i ∧ i < many ∧ ¬ (w = "try" ∧ i = at_ + 1)) := h
    show rowD (.tuple [.str w, .int i]) at_ many called = true
    rw [rowD_pair]
    rcases h with ⟨e, hi⟩ | ⟨hw, i0, i1, ht⟩
    · rw [decide_eq_true e, if_pos rfl]
      show (decide (-1000000000000 ≤ i) && decide (i ≤ 1000000000000)) = true
      rw [decide_eq_true (by omega), decide_eq_true (by omega)]
      rfl
    · have q := List.all_eq_true.mp row_tab.2.1 w hw
      rw [Bool.not_eq_true', Bool.or_eq_false_iff, Bool.or_eq_false_iff] at q
      rw [q.1.1, q.1.2, q.2, if_neg Bool.false_ne_true, if_neg Bool.false_ne_true, if_neg Bool.false_ne_true, decide_eq_true hw, Bool.true_and]
      show ((decide (0 ≤ i) && decide (i < (many : Int))) && !(decide (w = "try") && PyData.eqv (.int i) (.int (at_ + 1)))) = true
      rw [decide_eq_true i0, decide_eq_true i1, eqv_int]
      by_cases hw' : w = "try"
      · have : (i == (at_ : Int) + 1) = false := beq_eq_false_iff_ne.mpr fun z => ht ⟨hw', z⟩
        rw [this, Bool.and_false]
        rfl
      · rw [decide_eq_false hw']
        rfl
def WoR (_ : List PyData) (d : PyData) : Prop := ∃ i : Int, d = .int i ∧ i.natAbs ≤ 1000000000000
abbrev spWo (K : PySem.W.Frag) : Sp := spG K 0 (· = []) WoR
def RoPre (ds : List PyData) : Prop := ∃ (xs : List Str) (i N : Nat), ds = [.list (xs.map .str), .int (i : Nat), .int (N : Nat)] ∧ 1 ≤ xs.length ∧ xs.length ≤ 8 ∧ xs.all nameS = true ∧ i < N ∧ N ≤ 60
def RoR (ds : List PyData) (d : PyData) : Prop := ∃ (xs : List Str) (i N : Nat) (r : Rw), ds = [.list (xs.map .str), .int (i : Nat), .int (N : Nat)] ∧ d = r.d ∧ RwIn xs i N r
abbrev spRo (K : PySem.W.Frag) : Sp := spG K 0 RoPre RoR
section
variable {K : PySem.W.Frag} {b : List Addr} {a : Addr} {n m k : Nat} {σ : L2.St} {H H' : Hp} {ta tb te : TE} {t : TA} {tt : TT} {ts t1 t2 : TS} {P P' : PyData → Prop} {d : PyData} {ds : List PyData} {D : Ends}
theorem eg_IC {C : Int → Int → Prop} {g : Int → Int → Int} {P1 P2 : PyData → Prop} (ha : a ∈ b) (h1 : EG K b a n k ta σ H P1) (h2 : EG K b a k m tb σ H P2) (hi : ∀ d e, P1 d → P2 e → ∃ i j, d = .int i ∧ e = .int j ∧ C i j ∧ P (.int (g i j))) : EG K b a n m (tOp (rI C fun i j => .int (g i j)) ta tb) σ H P :=
  eg_op ha h1 h2 fun d e H1 x y Q p1 p2 _ _ hx hy q => by
    obtain ⟨i, j, rfl, rfl, hc, p⟩ := hi d e p1 p2
    exact ⟨i, j, dq_int hx, dq_int hy, hc, q _ _ H1 (Ex.refl H1) (.int _) p⟩
theorem eg_int {i : Int} : EG K b a n n (tC (.int i)) σ H (fun d => d = .int i) := eg_pure (fun _ _ _ => ed_int) rfl
theorem eg_str {x : Str} : EG K b a n n (tC (.str x)) σ H (fun d => d = .str x) := eg_pure (fun _ _ _ => ed_str) rfl
/-- one of a written list -/
theorem eg_pick {u : Int} {E : XK} {i : Nat} (ha : a ∈ b) (hb : σ[i]? = some (some (.ref a))) (h : ∀ H1, ExB a H H1 → Kn b H1 → ED K b te σ H1 (.list ds)) (hu : u = (ds.length : Nat)) (h0 : 0 < u) (h1 : u < 1000) (hp : ∀ z ∈ ds, P z) : EG K b a 0 0 (tOp (rIxL K) te (tCall (spTake K) [] E (tCons (tVar i) (tCons (tC (.int u)) tNil)))) σ H P :=
  eg_ixL (P1 := fun d => d = .list ds) ha (eg_pure h rfl) (eg_take (E := E) (u := u) ha hb h0 (by omega)) fun d e hd he => by
    obtain ⟨j, z, h1, h2, h3⟩ := intB_at (ds := ds) he (by omega)
    exact ⟨ds, j, z, hd, h1, h2, hp z h3⟩
theorem ed_catL {es : List PyData} (kn : Kn b H) (ha : ED K b ta σ H (.list ds)) (hb : ED K b tb σ H (.list es)) (hl : ds.length + es.length ≤ sizeLine)
    (ta' : ∀ H1, Ex H H1 → ∀ v, Dq K b H1 v (.list ds) → True) : True := trivial
end
section
variable {P : Program} {w : World} {K : PySem.W.Frag} {mg : Str → Option Value} {base : Heap} {f g g2 g3 : Addr} {fd gd gd2 gd3 : FuncData}
theorem ok_wo (D : Def K mg "_law_worth" s_wo ["_law_bag_here"] f fd) (Dt : Def K mg "_law_take" s_take ["_law_bag_here", "_law_many"] g gd) : FnOk P w K mg base CX0 2 f fd ["_law_bag_here"] (spWo K) := by
  refine D.F.ok sc_wo (fun vs H Q E h => spG_len (k := 0) (fun ds e => by rw [e]; rfl) h) (fun cdv A outer s H vs Q E hr h => ?_)
  obtain ⟨b, a, k, ws, ds, rfl, hab, kn, bg, hd, rfl, q⟩ := h
  cases hd
  have bg : Bag a 0 H := bg
  refine ⟨_, pss_cons (ps_set (i := 1) sc_wo.nd rfl (Or.inl rfl) (pe_cd Dt (ok_take Dt) hr (pa_cons (pv 0) (pa_cons pe_int pa_nil))))
    (pss_cons (ps_if (pt_cmpR op_lt (pv 1) pe_int (nomark _)) (pss_one (ps_ret (pe_op op_sub (pe_cd Dt (ok_take Dt) hr (pa_cons (pv 0) (pa_cons pe_int pa_nil))) pe_int))) pss_nil)
    (pss_cons (ps_set (i := 2) sc_wo.nd rfl (Or.inl rfl) (pe_ix ix_list (pe_lst (pa_cons (pe_cd Dt (ok_take Dt) hr (pa_cons (pv 0) (pa_cons (pe_op op_pow pe_int pe_int) pa_nil))) (pa_cons (pe_op op_pow pe_int pe_int) (pa_cons (pe_op op_sub (pe_op op_pow pe_int pe_int) (pe_cd Dt (ok_take Dt) hr (pa_cons (pv 0) (pa_cons (pe_op op_pow pe_int pe_int) pa_nil)))) pa_nil)))) (pe_op op_sub (pv 1) pe_int) (fun _ _ => rfl)))
    (pss_one (ps_ret (pe_op op_mul (pv 2) (pe_ix ix_list (pe_lst (pa_cons pe_int (pa_cons (pe_un un_neg pe_int) pa_nil))) (pe_cd Dt (ok_take Dt) hr (pa_cons (pv 0) (pa_cons pe_int pa_nil))) (fun _ _ => rfl))))))), ?_⟩
  have q : ∀ v d H', ExB a H H' → Bag a 0 H' → Dq K b H' v d → (∃ i : Int, d = .int i ∧ i.natAbs ≤ 1000000000000) → Q v H' := fun v d H' x y z p => q v d H' x y z p
  have p12 : ∀ {σ' H'}, ED K b (tOp (rI CPow fun i j => .int (i ^ j.toNat)) (tC (.int 10)) (tC (.int 12))) σ' H' (.int 1000000000000) := fun {_ _} => ed_I ed_int ed_int ⟨by decide, by decide, by decide⟩ fun _ => .int _
  have p9 : ∀ {σ' H'}, ED K b (tOp (rI CPow fun i j => .int (i ^ j.toNat)) (tC (.int 10)) (tC (.int 9))) σ' H' (.int 1000000000) := fun {_ _} => ed_I ed_int ed_int ⟨by decide, by decide, by decide⟩ fun _ => .int _
  have p6 : ∀ {σ' H'}, ED K b (tOp (rI CPow fun i j => .int (i ^ j.toNat)) (tC (.int 10)) (tC (.int 6))) σ' H' (.int 1000000) := fun {_ _} => ed_I ed_int ed_int ⟨by decide, by decide, by decide⟩ fun _ => .int _
  refine GS.fin (gs_set (k := 0) (P1 := IntB 6) (eg_take (i := 0) (u := 6) hab rfl (by decide) (by decide)) fun v1 d1 H1 x1 hv1 ⟨r, e, r0, r1⟩ => ?_) kn bg q
  subst e
  have ev := dq_int hv1
  subst ev
  refine gs_if (c := decide (r < 3)) (fun H2 x2 kn2 => et_t (ed_lt (K := K) (b := b) (ed_var (i := 1) rfl (.int r)) (ed_int (i := 3)))) (fun hc => ?_) (fun hc => ?_)
  · exact gs_ret (eg_I0 (g := fun i j => i - j) hab (eg_take (i := 0) (u := 33) hab rfl (by decide) (by decide)) (eg_int (i := 16)) fun d e ⟨x, ex, x0, x1⟩ ee => ⟨x, 16, ex, ee, _, rfl, by omega⟩)
  · have hr3 := of_decide_eq_false hc
    refine gs_set (k := 0) (P1 := fun d => ∃ x, d = .int x ∧ 0 ≤ x ∧ x ≤ 1000000000000) ?_ fun v2 d2 H2 x2 hv2 ⟨x, e, x0, x1⟩ => ?_
    · refine eg_ixL (P1 := fun d => ∃ y z, d = .list [.int y, .int 1000000000000, .int z] ∧ 0 ≤ y ∧ y ≤ 1000000000000 ∧ 0 ≤ z ∧ z ≤ 1000000000000) (P2 := fun d => d = .int (r - 3)) hab ?_ (eg_pure (fun _ _ _ => ed_sub (ed_var (i := 1) rfl (.int r)) (ed_int (i := 3))) rfl) ?_
      · refine eg_lst (R := fun ds => ∃ y z, ds = [.int y, .int 1000000000000, .int z] ∧ 0 ≤ y ∧ y ≤ 1000000000000 ∧ 0 ≤ z ∧ z ≤ 1000000000000) ?_ fun ds ⟨y, z, e, h⟩ => ⟨by rw [e]; exact sz3 (by decide), y, z, by rw [e], h⟩
        have t9 := eg_takeE (K := K) (b := b) (a := a) (n := 0) (m := 0) (E := E0) (σ := [some (.ref a), some (.int r), none]) (H := H1) (i := 0) (u := 1000000000) (P1 := fun d => d = .int 1000000000) hab rfl (eg_pure (fun _ _ _ => p9) rfl) fun d e => ⟨_, e, by decide, by decide, Int.le_refl _⟩
        have t6 := eg_takeE (K := K) (b := b) (a := a) (n := 0) (m := 0) (E := E0) (σ := [some (.ref a), some (.int r), none]) (H := H1) (i := 0) (u := 1000000) (P1 := fun d => d = .int 1000000) hab rfl (eg_pure (fun _ _ _ => p6) rfl) fun d e => ⟨_, e, by decide, by decide, Int.le_refl _⟩
        have c := ega_cons (K := K) hab t9 (ega_cons hab (eg_pure (P := fun d => d = .int 1000000000000) (fun _ _ _ => p12) rfl) (ega_cons hab (eg_I0 (g := fun i j => i - j) (P := fun d => ∃ z, d = .int z ∧ 0 ≤ z ∧ z ≤ 1000000000000) hab (eg_pure (P := fun d => d = .int 1000000000000) (fun _ _ _ => p12) rfl) t6 fun d e hd ⟨z, ez, z0, z1⟩ => ⟨_, z, hd, ez, _, rfl, by omega, by omega⟩) ega_nil))
        intro H2 x2 kn2 bg2 Q' q'
        refine c H2 x2 kn2 bg2 Q' fun vs ds H3 x3 bg3 hvs ⟨d, r1, e1, ⟨y, ey, y0, y1⟩, d2, r2, e2, ed2, d3, r3, e3, ⟨z, ez, z0, z1⟩, e4⟩ => ?_
        refine q' vs ds H3 x3 bg3 hvs ⟨y, z, ?_, y0, by omega, z0, z1⟩
        rw [e1, e2, e3, e4, ey, ed2, ez]
      · intro d e ⟨y, z, hd, y0, y1, z0, z1⟩ he
        have : r = 3 ∨ r = 4 ∨ r = 5 := by omega
        rcases this with h | h | h <;> subst h
        · exact ⟨_, _, _, hd, he, atI_nat (j := 0) rfl, y, rfl, y0, y1⟩
        · exact ⟨_, _, _, hd, he, atI_nat (j := 1) rfl, _, rfl, by decide, by decide⟩
        · exact ⟨_, _, _, hd, he, atI_nat (j := 2) rfl, z, rfl, z0, z1⟩
    · subst e
      have ev := dq_int hv2
      subst ev
      refine gs_ret (eg_IC (g := fun i j => i * j) (P1 := fun d => d = .int x) (P2 := fun d => d = .int 1 ∨ d = .int (-1)) hab (eg_pure (fun _ _ _ => ed_var (i := 2) rfl (.int x)) rfl) (eg_pick (i := 0) (u := 2) (ds := [.int 1, .int (-1)]) hab rfl (fun H3 x3 kn3 => ed_lst kn3 (ea_cons ed_int (ea_cons (ed_neg ed_int) ea_nil)) (by decide)) rfl (by decide) (by decide) fun z hz => ?_) fun d e hd he => ?_)
      · rcases List.mem_cons.mp hz with h | hz
        · exact .inl h
        · exact .inr (List.mem_singleton.mp hz)
      · rcases he with he | he
        · exact ⟨x, 1, hd, he, .inr ⟨by decide, by decide⟩, _, rfl, by omega⟩
        · exact ⟨x, -1, hd, he, .inr ⟨by decide, by decide⟩, _, rfl, by omega⟩
end
end Wr

set_option Elab.async false
set_option linter.all false
set_option maxRecDepth 100000
set_option maxHeartbeats 4000000
namespace Wr
open PySem PySem.Spec PyProof.Rows L2 Evl TL
def lone13 : List Str := ["add", "less", "times", "over", "same", "below", "twin", "swap", "away", "say", "back", "throw", "done"]
theorem lone_all : lone13 ++ [("lead" : Str), "turn"] = loneW := by decide +kernel
section
variable {K : PySem.W.Frag} {b : List Addr} {a : Addr} {n m k : Nat} {σ : L2.St} {H H' : Hp} {ta tb te : TE} {t : TA} {tt : TT} {ts t1 t2 : TS} {P P' : PyData → Prop} {d : PyData} {ds es : List PyData} {D : Ends}
theorem eg_catV {j : Nat} {p : Addr} {vs : List V} (hσ : σ[j]? = some (some (.ref p))) (hpa : p ≠ a) (hab : a ∈ b) (hp : H p = some (.lst vs)) (hv : DqAll K b H vs ds) (he : ∀ H1, ExB a H H1 → Kn b H1 → EA K b t σ H1 es) (hl : ds.length + es.length ≤ 1000) : EG K b a 0 0 (tOp rCat (tVar j) (tLst t)) σ H (fun d => d = .list (ds ++ es)) := fun H1 x1 kn1 bg1 Q q =>
  ⟨.ref p, hσ, he H1 x1 kn1 H1 (Ex.refl H1) _ fun ws H2 x2 hw => by
    have hsl : sizeLine = 16777216 := sizeLine_eq
    refine ⟨by rw [dps_len hw]; omega, fun p1 hp1 => ⟨p, p1, vs, ws, rfl, rfl, Ex.new hp1 _ _ (x2 _ _ (x1 _ _ hpa hp)), upd_same, by rw [dps_len hv, dps_len hw]; omega, fun p2 hp2 => ?_⟩⟩
    have x3 := (Ex.new (o := HO.lst ws) hp1).trans (Ex.new (o := HO.lst (vs ++ ws)) hp2)
    have xx := x2.trans x3
    have kn3 := (kn1.up x2).up (Ex.new (o := HO.lst ws) hp1)
    refine q _ (.list (ds ++ es)) _ (exb xx) (bg1.ex xx) (.lst (.inl (.inl (hid_new (kn3.new hp2)))) ?_) rfl
    exact dps_app (DqAll.up (DqAll.upB hab hv x1) xx) (DqAll.up hw x3)⟩
end
section
variable {P : Program} {w : World} {K : PySem.W.Frag} {mg : Str → Option Value} {base : Heap} {f g g2 g3 : Addr} {fd gd gd2 gd3 : FuncData}
theorem ok_ro (D : Def K mg "_law_row" s_ro ["_law_bag_here", "_law_parts", "_law_at", "_law_many"] f fd) (Dt : Def K mg "_law_take" s_take ["_law_bag_here", "_law_many"] g gd)
    (Dw : Def K mg "_law_worth" s_wo ["_law_bag_here"] g2 gd2) (Gw : FnOk P w K mg base CX0 2 g2 gd2 ["_law_bag_here"] (spWo K)) (Dn : Def K mg "_law_names" s_nm ["_law_bag_here", "_law_many"] g3 gd3) (Gn : FnOk P w K mg base CX0 2 g3 gd3 ["_law_bag_here", "_law_many"] (spNm K)) (B : Blt mg) :
    FnOk P w K mg base CX0 3 f fd ["_law_bag_here", "_law_parts", "_law_at", "_law_many"] (spRo K) := by
  refine D.F.ok sc_ro (fun vs H Q E h => spG_len (k := 3) (fun ds ⟨_, _, _, e, _⟩ => by rw [e]; rfl) h) (fun cdv A outer s H vs Q E hr h => ?_)
  obtain ⟨b, a, k, ws, ds, rfl, hab, kn, bg, hd, ⟨xs, at_, N, rfl, l1, l8, hnm, hat, hN⟩, q⟩ := h
  obtain ⟨vp, va, vm, dp, da, dm, rfl, ed, hp, ha, hm⟩ := three_of hd rfl
  cases ed
  have ea := dq_int ha
  have em := dq_int hm
  subst ea em
  have bg : Bag a 0 H := bg
  refine ⟨_, pss_cons (ps_set (i := 4) sc_ro.nd rfl (Or.inl rfl) (pe_cd Dt (ok_take Dt) (hr.mono (by decide)) (pa_cons (pv 0) (pa_cons pe_int pa_nil))))
    (pss_cons (ps_if (pt_cmpR op_eq (pv 4) pe_int (nomark _)) (pss_one (ps_ret (pe_tupF (pa_cons pe_str (pa_cons (pe_cd Dw Gw hr (pa_cons (pv 0) pa_nil)) pa_nil))))) pss_nil)
    (pss_cons (ps_if (pt_cmpR op_eq (pv 4) pe_int (nomark _)) (pss_one (ps_ret (pe_tupF (pa_cons pe_str (pa_cons (pe_ix ix_list (pv 1) (pe_cd Dt (ok_take Dt) (hr.mono (by decide)) (pa_cons (pv 0) (pa_cons (pe_callB call_lenD1 rfl B.len bb_len (pa_cons (pv 1) pa_nil)) pa_nil))) (fun _ _ => rfl)) pa_nil))))) pss_nil)
    (pss_cons (ps_if (pt_cmpR op_eq (pv 4) pe_int (nomark _)) (pss_cons (ps_set (i := 5) sc_ro.nd rfl (Or.inl rfl) (pe_cd Dt (ok_take Dt) (hr.mono (by decide)) (pa_cons (pv 0) (pa_cons (pv 3) pa_nil))))
    (pss_cons (ps_set (i := 6) sc_ro.nd rfl (Or.inl rfl) (pe_ix ix_list (pe_lst (pa_cons pe_str (pa_cons pe_str (pa_cons pe_str pa_nil)))) (pe_cd Dt (ok_take Dt) (hr.mono (by decide)) (pa_cons (pv 0) (pa_cons pe_int pa_nil))) (fun _ _ => rfl)))
    (pss_one (ps_ret (pe_tupF (pa_cons (pe_ifExp (pt_cmpR op_ne (pv 5) (pe_op op_add (pv 2) pe_int) (nomark _)) (pv 6) pe_str) (pa_cons (pv 5) pa_nil))))))) pss_nil)
    (pss_cons (ps_if (pt_cmpR op_eq (pv 4) pe_int (nomark _)) (pss_one (ps_ret (pe_tupF (pa_cons (pe_ix ix_list (pe_lst (pa_cons pe_str (pa_cons pe_str (pa_cons pe_str (pa_cons pe_str pa_nil))))) (pe_cd Dt (ok_take Dt) (hr.mono (by decide)) (pa_cons (pv 0) (pa_cons pe_int pa_nil))) (fun _ _ => rfl)) (pa_cons (pe_ix ix_list (pe_cd Dn Gn hr (pa_cons (pv 0) (pa_cons pe_int pa_nil))) pe_int (fun _ _ => rfl)) pa_nil))))) pss_nil)
    (pss_cons (ps_set (i := 7) sc_ro.nd rfl (Or.inl rfl) (pe_lst (pa_cons pe_str (pa_cons pe_str (pa_cons pe_str (pa_cons pe_str (pa_cons pe_str (pa_cons pe_str (pa_cons pe_str (pa_cons pe_str (pa_cons pe_str (pa_cons pe_str (pa_cons pe_str (pa_cons pe_str (pa_cons pe_str pa_nil)))))))))))))))
    (pss_one (ps_ret (pe_tupF (pa_cons (pe_ix ix_list (pe_op op_cat (pv 7) (pe_lst (pa_cons pe_str (pa_cons pe_str pa_nil)))) (pe_cd Dt (ok_take Dt) (hr.mono (by decide)) (pa_cons (pv 0) (pa_cons pe_int pa_nil))) (fun _ _ => rfl)) pa_nil))))))))), ?_⟩
  have q : ∀ v d H', ExB a H H' → Bag a 0 H' → Dq K b H' v d → (∃ r, d = r.d ∧ RwIn xs at_ N r) → Q v H' := fun v d H' x y z ⟨r, e, p⟩ => q v d H' x y z ⟨xs, at_, N, r, rfl, e, p⟩
  refine GS.fin (gs_set (k := 0) (P1 := IntB 8) (eg_take (i := 0) (u := 8) hab rfl (by decide) (by decide)) fun v1 d1 H1 x1 hv1 ⟨r, e, r0, r1⟩ => ?_) kn bg q
  subst e
  have ev := dq_int hv1
  subst ev
  have hp1 := Dq.upB hab hp x1
  have tst : ∀ (c : Int) (u5 u6 u7 : Option V) (H2 : Hp), ExB a H1 H2 → Kn b H2 → EvT (tTest (tOp rEq (tVar 4) (tC (.int c)))) [some (.ref a), some vp, some (.int (at_ : Nat)), some (.int (N : Nat)), some (.int r), u5, u6, u7] H2 (decide (r = c)) := fun c u5 u6 u7 H2 x2 kn2 => et_t (ed_eqI (K := K) (b := b) (ed_var (i := 4) rfl (.int r)) (ed_int (i := c)))
  refine gs_if (fun H2 x2 kn2 => tst 0 none none none H2 x2 kn2) (fun hc => ?_) (fun hc => ?_)
  · -- put
    refine gs_ret (eg_tup (ega_cons hab (eg_str (x := "put")) (ega_cons (P := fun d => ∃ i : Int, d = .int i ∧ i.natAbs ≤ 1000000000000) hab (eg_call (E := E0) (i := 0) (S := (· = [])) hab rfl (m := 0) ega_nil (fun _ e => e) fun _ _ _ p => p) ega_nil)) fun ds ⟨d, r', e1, ed, d2, r2, e2, ⟨i, ei, hi⟩, e3⟩ => ?_)
    rw [e1, e2, e3, ed, ei]
    exact ⟨sz2 (by decide), .num "put" i, rfl, .inl ⟨rfl, hi⟩⟩
  · refine gs_if (fun H2 x2 kn2 => tst 1 none none none H2 x2 kn2) (fun hc => ?_) (fun hc => ?_)
    · -- call
      have lenE : ∀ {H2}, ExB a H1 H2 → ED K b (tCB (rLen K) (tCons (tVar 1) tNil)) [some (.ref a), some vp, some (.int (at_ : Nat)), some (.int (N : Nat)), some (.int r), none, none, none] H2 (.int (xs.length : Nat)) := fun {H2} x2 => (ed_len (d := .list (xs.map .str)) (ed_var (i := 1) rfl (Dq.upB hab hp1 x2)) (.inr (.inl rfl)) fun y e => by cases e).to (by
        show PyData.int (((xs.map PyData.str).length : Nat)) = _
        rw [List.length_map])
      refine gs_ret (eg_tup (ega_cons hab (eg_str (x := "call")) (ega_cons (P := fun d => ∃ x, d = .str x ∧ x ∈ xs) hab (eg_ixL (P1 := fun d => d = .list (xs.map .str)) (P2 := IntB xs.length) hab (eg_pure (fun H2 x2 _ => ed_var (i := 1) rfl (Dq.upB hab hp1 x2)) rfl) (eg_takeE (E := E0) (i := 0) (n := 0) (m := 0) (u := xs.length) (P1 := fun d => d = .int (xs.length : Nat)) hab rfl (eg_pure (fun H2 x2 _ => lenE x2) rfl) fun d e => ⟨_, e, by omega, by omega, Int.le_refl _⟩) fun d e hd he => ?_) ega_nil)) fun ds ⟨d, r', e1, ed, d2, r2, e2, ⟨x, ex, hx⟩, e3⟩ => ?_)
      · obtain ⟨j, z, h1, h2, h3⟩ := intB_at (ds := xs.map .str) he (by rw [List.length_map]; exact Int.le_refl _)
        obtain ⟨x, hx, ex⟩ := List.mem_map.mp h3
        exact ⟨_, j, z, hd, h1, h2, x, ex.symm, hx⟩
      · rw [e1, e2, e3, ed, ex]
        exact ⟨sz2 (by decide), .nm "call" x, rfl, .inl ⟨rfl, hx⟩, List.all_eq_true.mp hnm x hx⟩
    · refine gs_if (fun H2 x2 kn2 => tst 2 none none none H2 x2 kn2) (fun hc => ?_) (fun hc => ?_)
      · -- go, if, try
        refine gs_set (k := 0) (P1 := IntB N) (eg_takeE (E := E0) (i := 0) (n := 0) (m := 0) (u := N) (P1 := fun d => d = .int (N : Nat)) hab rfl (eg_pure (fun H2 x2 _ => ed_var (i := 3) rfl (.int _)) rfl) fun d e => ⟨_, e, by omega, by omega, Int.le_refl _⟩) fun v2 d2 H2 x2 hv2 ⟨g', e, g0, g1⟩ => ?_
        subst e
        have ev := dq_int hv2
        subst ev
        refine gs_set (k := 0) (P1 := fun d => ∃ x, d = .str x ∧ x ∈ rowW) (eg_pick (i := 0) (u := 3) (ds := rowW.map .str) hab rfl (fun H3 x3 kn3 => ed_lst kn3 (ea_cons (ed_str (x := "go")) (ea_cons (ed_str (x := "if")) (ea_cons (ed_str (x := "try")) ea_nil))) (by decide)) rfl (by decide) (by decide) fun z hz => ?_) fun v3 d3 H3 x3 hv3 ⟨x, e, hx⟩ => ?_
        · obtain ⟨x, hx, ex⟩ := List.mem_map.mp hz
          exact ⟨x, ex.symm, hx⟩
        · subst e
          have ev := dq_str hv3
          subst ev
          refine gs_ret (eg_tup (ega_cons (P := fun d => ∃ y, d = .str y ∧ y ∈ rowW ∧ ¬ (y = "try" ∧ g' = (at_ : Int) + 1)) hab (eg_if (c := !decide (g' = (at_ : Int) + 1)) (fun H4 x4 kn4 => et_t (ed_neI (K := K) (b := b) (ed_var (i := 5) rfl (.int g')) (ed_add (ed_var (i := 2) rfl (.int _)) (ed_int (i := 1))))) (fun hc => eg_pure (fun H4 _ _ => ed_var (i := 6) rfl (.str x)) ⟨x, rfl, hx, fun z => ?_⟩) (fun hc => eg_pure (fun _ _ _ => ed_str (x := "go")) ⟨"go", rfl, by decide +kernel, fun z => absurd z.1 (by decide +kernel)⟩)) (ega_cons (P := fun d => d = .int g') hab (eg_pure (fun H4 _ _ => ed_var (i := 5) rfl (.int g')) rfl) ega_nil)) fun ds ⟨d, r', e1, ⟨y, ey, hy, hny⟩, d2, r2, e2, ed2, e3⟩ => ?_)
          · rw [Bool.not_eq_true'] at hc
            exact of_decide_eq_false hc z.2
          · rw [e1, e2, e3, ey, ed2]
            exact ⟨sz2 (by decide), .num y g', rfl, .inr ⟨hy, g0, g1, hny⟩⟩
      · refine gs_if (fun H2 x2 kn2 => tst 3 none none none H2 x2 kn2) (fun hc => ?_) (fun hc => ?_)
        · -- get, set, look, change
          refine gs_ret (eg_tup (ega_cons (P := fun d => ∃ x, d = .str x ∧ x ∈ nameW) hab (eg_pick (i := 0) (u := 4) (ds := nameW.map .str) hab rfl (fun H3 x3 kn3 => ed_lst kn3 (ea_cons (ed_str (x := "get")) (ea_cons (ed_str (x := "set")) (ea_cons (ed_str (x := "look")) (ea_cons (ed_str (x := "change")) ea_nil)))) (by decide)) rfl (by decide) (by decide) fun z hz => ?_) (ega_cons (P := fun d => ∃ x, d = .str x ∧ nameS x = true) hab (eg_ixL (P2 := fun d => d = .int 0) (P1 := fun d => ∃ ys : List Str, d = .list (ys.map .str) ∧ 1 ≤ ys.length ∧ ys.all nameS = true) hab (eg_call (E := E0) (i := 0) (S := fun ds => ds = [.int ((3 : Nat) : Int)]) hab rfl (m := 0) (fun H2 x2 kn2 bg2 Q' q' => (ega_cons (K := K) hab (eg_int (n := 0) (i := 3)) ega_nil) H2 x2 kn2 bg2 Q' fun vs ds H3 x3 b3 hvs ⟨d, r', e1, ed, er⟩ => q' vs ds H3 x3 b3 hvs (by rw [e1, ed, er]; rfl)) (fun ds e => ⟨3, e, by decide⟩) fun ds d e ⟨m, ys, em, ed, hl, h1, hn, _⟩ => ⟨ys, ed, h1 (by
            rw [e] at em
            injection em with em _
            injection em with em
            omega), hn⟩) (eg_int (i := 0)) fun d e ⟨ys, hd, h1, hn⟩ he => ?_) ega_nil)) fun ds ⟨d, r', e1, ⟨y, ey, hy⟩, d2, r2, e2, ⟨z, ez, hz⟩, e3⟩ => ?_)
          · obtain ⟨x, hx, ex⟩ := List.mem_map.mp hz
            exact ⟨x, ex.symm, hx⟩
          · match ys, h1, hn, hd with
            | y :: r', _, hn, hd =>
              rw [List.all_cons, Bool.and_eq_true] at hn
              exact ⟨_, 0, .str y, hd, he, atI_nat (j := 0) rfl, y, rfl, hn.1⟩
          · rw [e1, e2, e3, ey, ez]
            exact ⟨sz2 (by decide), .nm y z, rfl, .inr hy, hz⟩
        · -- a lone word
          intro H2 x2 kn2 bg2 D' q'
          refine g_lst (K := K) (b := b) (ds := lone13.map .str) kn2 (ea_cons (ed_str (x := "add")) (ea_cons (ed_str (x := "less")) (ea_cons (ed_str (x := "times")) (ea_cons (ed_str (x := "over")) (ea_cons (ed_str (x := "same")) (ea_cons (ed_str (x := "below")) (ea_cons (ed_str (x := "twin")) (ea_cons (ed_str (x := "swap")) (ea_cons (ed_str (x := "away")) (ea_cons (ed_str (x := "say")) (ea_cons (ed_str (x := "back")) (ea_cons (ed_str (x := "throw")) (ea_cons (ed_str (x := "done")) ea_nil))))))))))))) (by decide) fun pW vsW H3 hpW x3 hW dW => ?_
          have hpa : pW ≠ a := fun z => bg2.there (z ▸ hpW)
          refine GS.fin (gs_ret (eg_tup (R := fun ds => ∃ x, ds = [.str x] ∧ x ∈ loneW) (fun H4 x4 kn4 bg4 Q' q'' => (ega_cons (K := K) (P := fun d => ∃ x, d = .str x ∧ x ∈ loneW) hab (eg_ixL (P1 := fun d => d = .list ((lone13 ++ [("lead" : Str), "turn"]).map .str)) hab (eg_catV (j := 7) (p := pW) (vs := vsW) (ds := lone13.map .str) (es := [.str "lead", .str "turn"]) rfl hpa hab hW dW (fun H5 _ _ => ea_cons (ed_str (x := "lead")) (ea_cons (ed_str (x := "turn")) ea_nil)) (by decide)) (eg_take (E := E0) (i := 0) (u := 15) hab rfl (by decide) (by decide)) fun d e hd he => by
            rw [lone_all] at hd
            obtain ⟨j, z, h1, h2, h3⟩ := intB_at (ds := loneW.map .str) he (by decide)
            obtain ⟨x, hx, ex⟩ := List.mem_map.mp h3
            exact ⟨_, j, z, hd, h1, h2, x, ex.symm, hx⟩) ega_nil) H4 x4 kn4 bg4 Q' fun vs ds H5 x5 b5 hvs ⟨d, r', e1, ⟨x, ex, hx⟩, er⟩ => q'' vs ds H5 x5 b5 hvs ⟨x, by rw [e1, ex, er], hx⟩) fun ds ⟨x, e, hx⟩ => ⟨by rw [e]; exact sz1 (by decide), .lone x, by rw [e]; rfl, hx⟩)) (kn2.up x3) (bg2.ex x3) fun v d H' x b' hv p => q' v d H' ((exb x3).trans x) b' hv p
end
end Wr

set_option Elab.async false
set_option linter.all false
set_option maxRecDepth 100000
set_option maxHeartbeats 4000000
namespace Wr
open PySem PySem.Spec PyProof.Rows L2 Evl TL
abbrev s_pr : Stmt := topS 58
abbrev NPr : List Str := ["_law_bag_here", "_law_parts", "_law_found", "_law_name", "_law_many", "_law_names_here", "_law_at"]
theorem sc_pr : FnScope NPr ["_law_bag_here"] (defScope s_pr) := ⟨rfl, rfl, rfl, by decide +kernel, rfl, by decide +kernel, by decide +kernel⟩
/-! ### programs, part by part -/
structure PGood (called : List Str) (p : Pt) : Prop where
  nm : nameS p.name = true
  nms : p.names.all nameS = true
  nnd : p.names.Nodup
  l3 : p.names.length ≤ 3
  r1 : 1 ≤ p.rows.length
  r60 : p.rows.length ≤ 60
  rs : ∀ (i : Nat) (r : Rw), p.rows[i]? = some r → RwIn called i p.rows.length r
theorem PGood.ok {called : List Str} {p : Pt} (h : PGood called p) : PtOk p := by
  refine ⟨h.nm, fun x hx => List.all_eq_true.mp h.nms x hx, Nat.le_succ_of_le h.l3, fun e => ?_, Nat.le_succ_of_le h.r60, fun r hr => ?_⟩
  · have := h.r1
    rw [e] at this
    cases this
  · obtain ⟨i, hi⟩ := List.mem_iff_getElem?.mp hr
    exact (h.rs i r hi).ok h.r60
theorem rw_okL {r : Rw} (h : RwOk r) : okL 61 1 r.d = true ∧ szD r.d ≤ 2200 := by
  cases r with
  | lone w =>
    have h : w ∈ loneW := h
    have q := word_wd (w := w) (by simp [h])
    refine ⟨okL_tup (by show 1 ≤ 61; decide) fun d hd => ?_, ?_⟩
    · rw [List.mem_singleton.mp hd]
      exact okL_str q.2 (by omega)
    · show szD (.tuple [.str w]) ≤ _
      rw [szD_tup]
      simp only [szAll, szD_str]
      omega
  | nm w x =>
    obtain ⟨h1, h2⟩ : (w = "call" ∨ w ∈ nameW) ∧ nameS x = true := h
    have q := word_wd (w := w) (by rcases h1 with e | e; rw [e]; simp; simp [e])
    have hx := name_len h2
    refine ⟨okL_tup (by show 2 ≤ 61; decide) fun d hd => ?_, ?_⟩
    · rcases List.mem_cons.mp hd with e | hd
      · rw [e]; exact okL_str q.2 (by omega)
      · rw [List.mem_singleton.mp hd]; exact okL_str (name_strOk h2) (by omega)
    · show szD (.tuple [.str w, .str x]) ≤ _
      rw [szD_tup]
      simp only [szAll, szD_str]
      omega
  | num w i =>
    have h : (w = "put" ∧ i.natAbs ≤ 1000000000000000000000000000000000000000) ∨ (w ∈ rowW ∧ 0 ≤ i ∧ i ≤ 60) := h
    have q := word_wd (w := w) (by rcases h with ⟨e, _⟩ | ⟨e, _⟩; rw [e]; simp; simp [e])
    refine ⟨okL_tup (by show 2 ≤ 61; decide) fun d hd => ?_, ?_⟩
    · rcases List.mem_cons.mp hd with e | hd
      · rw [e]; exact okL_str q.2 (by omega)
      · rw [List.mem_singleton.mp hd]
        refine okL_int ?_
        rcases h with ⟨_, h⟩ | ⟨_, h1, h2⟩
        · exact Nat.lt_of_le_of_lt h (by decide)
        · exact Nat.lt_of_le_of_lt (show i.natAbs ≤ 60 by omega) (by decide)
    · show szD (.tuple [.str w, .int i]) ≤ _
      rw [szD_tup]
      simp only [szAll, szD_str, szD_int]
      omega
theorem pt_okL {p : Pt} (h : PtOk p) : okL 61 3 p.d = true ∧ szD p.d ≤ 135000 := by
  have hx := name_len h.nm
  have nl : ∀ y ∈ p.names, y.length ≤ 8 := fun y hy => name_len (h.nms y hy)
  refine ⟨okL_tup (by show 3 ≤ 61; decide) fun d hd => ?_, ?_⟩
  · simp only [List.mem_cons, List.not_mem_nil, or_false] at hd
    rcases hd with rfl | rfl | rfl
    · exact okL_str (name_strOk h.nm) (by omega)
    · refine okL_tup (by rw [List.length_map]; have := h.l3; omega) fun d hd => ?_
      obtain ⟨y, hy, rfl⟩ := List.mem_map.mp hd
      exact okL_str (name_strOk (h.nms y hy)) (by have := nl y hy; omega)
    · refine okL_tup (by rw [List.length_map]; exact h.r60) fun d hd => ?_
      obtain ⟨r, hr, rfl⟩ := List.mem_map.mp hd
      exact (rw_okL (h.rs r hr)).1
  · show szD (.tuple [.str p.name, .tuple (p.names.map .str), .tuple (p.rows.map Rw.d)]) ≤ _
    rw [szD_tup]
    simp only [szAll, szD_str]
    rw [szD_tup, szD_tup]
    have h1 := szAll_le (c := 82) (xs := p.names.map PyData.str) fun d hd => by
      obtain ⟨y, hy, rfl⟩ := List.mem_map.mp hd
      rw [szD_str]
      have := nl y hy
      omega
    have h2 := szAll_le (c := 2200) (xs := p.rows.map Rw.d) fun d hd => by
      obtain ⟨r, hr, rfl⟩ := List.mem_map.mp hd
      exact (rw_okL (h.rs r hr)).2
    rw [List.length_map] at h1 h2
    have h3 : p.names.length * (82 + 2) ≤ 4 * 84 := Nat.mul_le_mul_right _ h.l3
    have h4 : p.rows.length * (2200 + 2) ≤ 61 * 2202 := Nat.mul_le_mul_right _ h.r60
    omega
theorem fst_map (ps : List Pt) : (ps.map Pt.d).map fst = (ps.map Pt.name).map .str := by
  rw [List.map_map, List.map_map]
  rfl
theorem good_of {ps : List Pt} (l1 : 1 ≤ ps.length) (l8 : ps.length ≤ 8) (h : ∀ p ∈ ps, PGood (ps.map Pt.name) p) (nd : (ps.map Pt.name).Nodup) : GoodP ps := by
  have ok : ∀ p ∈ ps, PtOk p := fun p hp => (h p hp).ok
  refine ⟨l1, l8, ok, ?_, ?_⟩
  · show (((decide (1 ≤ (ps.map Pt.d).length) && decide (((ps.map Pt.d).length : Int) ≤ 8)) && ((ps.map Pt.d).all headedD && unlikeS (strsOf ((ps.map Pt.d).map fst)))) && (ps.map Pt.d).all fun p => rowsD (thd p) (strsOf ((ps.map Pt.d).map fst))) = true
    rw [fst_map, strsOf_map, List.length_map, decide_eq_true l1, decide_eq_true (by omega)]
    have e1 : (ps.map Pt.d).all headedD = true := List.all_eq_true.mpr fun d hd => by
      obtain ⟨p, hp, rfl⟩ := List.mem_map.mp hd
      have g := h p hp
      show (nameS p.name && (decide ((p.names.map PyData.str).length ≤ 3) && ((p.names.map PyData.str).all nameD && unlikeS (strsOf (p.names.map .str))))) = true
      rw [g.nm, List.length_map, decide_eq_true g.l3, strsOf_map]
      have e2 : (p.names.map PyData.str).all nameD = true := by
        rw [List.all_map]
        exact g.nms
      rw [e2]
      unfold unlikeS
      rw [decide_eq_true ((uq_len_iff p.names).mpr g.nnd)]
      rfl
    have e2 : unlikeS (ps.map Pt.name) = true := decide_eq_true ((uq_len_iff _).mpr nd)
    have e3 : ((ps.map Pt.d).all fun p => rowsD (thd p) (ps.map Pt.name)) = true := List.all_eq_true.mpr fun d hd => by
      obtain ⟨p, hp, rfl⟩ := List.mem_map.mp hd
      have g := h p hp
      show ((decide (1 ≤ (p.rows.map Rw.d).length) && decide ((p.rows.map Rw.d).length ≤ 60)) && ((List.range (p.rows.map Rw.d).length).all fun i => rowD ((p.rows.map Rw.d).getD i .none) i (p.rows.map Rw.d).length (ps.map Pt.name))) = true
      rw [List.length_map, decide_eq_true g.r1, decide_eq_true g.r60, Bool.and_self, Bool.true_and]
      refine List.all_eq_true.mpr fun i hi => ?_
      have hi' := List.mem_range.mp hi
      rw [List.getD_eq_getElem?_getD, List.getElem?_map, List.getElem?_eq_getElem hi']
      exact (g.rs i _ (List.getElem?_eq_getElem hi')).row
    rw [e1, e2, e3]
    rfl
  · refine okL_ok (L := 61) (by decide) 30 _ (okL_up (Nat.le_refl _) 4 30 _ (by decide) ?_)
    refine okL_tup (by rw [List.length_map]; omega) fun d hd => ?_
    obtain ⟨p, hp, rfl⟩ := List.mem_map.mp hd
    exact (pt_okL (ok p hp)).1
theorem good_sz {ps : List Pt} (G : GoodP ps) : szD (prD ps) ≤ 1100000 := by
  show szD (.tuple (ps.map Pt.d)) ≤ _
  rw [szD_tup]
  have h2 := szAll_le (c := 135000) (xs := ps.map Pt.d) fun d hd => by
    obtain ⟨p, hp, rfl⟩ := List.mem_map.mp hd
    exact (pt_okL (G.ok p hp)).2
  rw [List.length_map] at h2
  have h4 : ps.length * (135000 + 2) ≤ 8 * 135002 := Nat.mul_le_mul_right _ G.l8
  omega
def PrR (_ : List PyData) (d : PyData) : Prop := ∃ ps, d = prD ps ∧ GoodP ps
abbrev spPr (K : PySem.W.Frag) : Sp := spG K 0 (· = []) PrR
theorem rows_back {ds : List PyData} {xs : List Str} {N : Nat} : ∀ (h : ∀ (i : Nat) (x : PyData), ds[i]? = some x → ∃ r : Rw, x = r.d ∧ RwIn xs i N r), ∃ rs : List Rw, ds = rs.map Rw.d ∧ ∀ (i : Nat) (r : Rw), rs[i]? = some r → RwIn xs i N r := by
  intro h
  have : ∀ (j : Nat) (ds : List PyData), (∀ (i : Nat) (x : PyData), ds[i]? = some x → ∃ r : Rw, x = r.d ∧ RwIn xs (j + i) N r) → ∃ rs : List Rw, ds = rs.map Rw.d ∧ ∀ (i : Nat) (r : Rw), rs[i]? = some r → RwIn xs (j + i) N r := by
    intro j ds
    induction ds generalizing j with
    | nil => exact fun _ => ⟨[], rfl, fun i r h => by cases h⟩
    | cons d ds ih =>
      intro h
      obtain ⟨r, e, hr⟩ := h 0 d rfl
      obtain ⟨rs, e2, h2⟩ := ih (j + 1) fun i x hx => by
        have := h (i + 1) x hx
        rw [show j + 1 + i = j + (i + 1) by omega]
        exact this
      refine ⟨r :: rs, by rw [e, e2]; rfl, fun i r' hi => ?_⟩
      cases i with
      | zero =>
        have e3 : r = r' := Option.some.inj hi
        rw [← e3]
        exact hr
      | succ i =>
        have := h2 i r' hi
        rw [show j + 1 + i = j + (i + 1) by omega] at this
        exact this
  obtain ⟨rs, e, hr⟩ := this 0 ds fun i x hx => by rw [Nat.zero_add]; exact h i x hx
  exact ⟨rs, e, fun i r hi => by have := hr i r hi; rw [Nat.zero_add] at this; exact this⟩
section
variable {P : Program} {w : World} {K : PySem.W.Frag} {mg : Str → Option Value} {base : Heap} {f g g2 g3 : Addr} {fd gd gd2 gd3 : FuncData}
theorem ok_pr (D : Def K mg "_law_program" s_pr ["_law_bag_here"] f fd) (Dt : Def K mg "_law_take" s_take ["_law_bag_here", "_law_many"] g gd)
    (Dn : Def K mg "_law_names" s_nm ["_law_bag_here", "_law_many"] g3 gd3) (Gn : FnOk P w K mg base CX0 2 g3 gd3 ["_law_bag_here", "_law_many"] (spNm K)) (Dr : Def K mg "_law_row" s_ro ["_law_bag_here", "_law_parts", "_law_at", "_law_many"] g2 gd2) (Gr : FnOk P w K mg base CX0 3 g2 gd2 ["_law_bag_here", "_law_parts", "_law_at", "_law_many"] (spRo K)) (B : Blt mg) :
    FnOk P w K mg base CX0 4 f fd ["_law_bag_here"] (spPr K) := by
  refine D.F.ok sc_pr (fun vs H Q E h => spG_len (k := 0) (fun ds e => by rw [e]; rfl) h) (fun cdv A outer s H vs Q E hr h => ?_)
  obtain ⟨b, a, k, ws, ds, rfl, hab, kn, bg, hd, rfl, q⟩ := h
  cases hd
  have bg : Bag a 0 H := bg
  refine ⟨_, pss_cons (ps_set (i := 1) sc_pr.nd rfl (Or.inr rfl) (pe_cd Dn Gn (hr.mono (by decide)) (pa_cons (pv 0) (pa_cons (pe_ix ix_list (pe_lst (pa_cons pe_int (pa_cons pe_int (pa_cons pe_int (pa_cons pe_int pa_nil))))) (pe_cd Dt (ok_take Dt) (hr.mono (by decide)) (pa_cons (pv 0) (pa_cons pe_int pa_nil))) (fun _ _ => rfl)) pa_nil))))
    (pss_cons (ps_set (i := 2) sc_pr.nd rfl (Or.inl rfl) (pe_lst pa_nil))
    (pss_cons (ps_for PassesOwn.never rfl (pi_list (pv 1)) (pg_name (i := 3) sc_pr.nd rfl (Or.inl rfl)) (pss_cons (ps_set (i := 4) sc_pr.nd rfl (Or.inr rfl) (pe_op op_add pe_int (pe_cd Dt (ok_take Dt) (hr.mono (by decide)) (pa_cons (pv 0) (pa_cons (pe_ix ix_list (pe_lst (pa_cons pe_int (pa_cons pe_int (pa_cons pe_int (pa_cons pe_int pa_nil))))) (pe_cd Dt (ok_take Dt) (hr.mono (by decide)) (pa_cons (pv 0) (pa_cons pe_int pa_nil))) (fun _ _ => rfl)) pa_nil)))))
    (pss_cons (ps_set (i := 5) sc_pr.nd rfl (Or.inl rfl) (pe_callTy call_tupF rfl B.tuple bt_tuple (pa_cons (pe_cd Dn Gn (hr.mono (by decide)) (pa_cons (pv 0) (pa_cons (pe_cd Dt (ok_take Dt) (hr.mono (by decide)) (pa_cons (pv 0) (pa_cons pe_int pa_nil))) pa_nil))) pa_nil)))
    (pss_one (ps_expr (pe_bm PySem.F.plainAttrs_list PySem.F.slot_list_append PySem.F.type_list_append mt_append (pv 2) (pa_cons (pe_tupF (pa_cons (pv 3) (pa_cons (pv 5) (pa_cons (pe_callTy call_tupF rfl B.tuple bt_tuple (pa_cons (pe_lc (own := [("_law_at", 6)]) (g := gName 6) (tt := tYes) rfl sc_pr.nd (pi_range1 rfl B.range (pa_cons (pv 4) pa_nil)) (blkOk_by (N := NPr) (sc := defScope s_pr) (by decide +kernel)) (fun _ _ _ _ _ => (pg_name (i := 6) sc_pr.nd rfl (Or.inl rfl))) (fun _ _ _ _ _ => pts_nil) (fun _ _ _ _ _ => (pe_cd Dr Gr hr (pa_cons (pv 0) (pa_cons (pv 1) (pa_cons (pv 6) (pa_cons (pv 4) pa_nil))))))) pa_nil)) pa_nil)))) pa_nil)))))))
    (pss_one (ps_ret (pe_callTy call_tupF rfl B.tuple bt_tuple (pa_cons (pv 2) pa_nil)))))), ?_⟩
  have hsl : sizeLine = 16777216 := sizeLine_eq
  -- parts
  have nmE : ∀ {b' : List Addr} {σ' H' te} {u : Nat}, a ∈ b' → σ'[0]? = some (some (V.ref a)) → u ≤ 8 → EG K b' a 0 0 te σ' H' (fun d => ∃ m : Nat, d = .int (m : Nat) ∧ m ≤ u) → EG K b' a 0 0 (tCall (spNm K) [] E0 (tCons (tVar 0) (tCons te tNil))) σ' H' (fun d => ∃ (m : Nat) (xs : List Str), d = .list (xs.map .str) ∧ m ≤ u ∧ xs.length ≤ m ∧ (1 ≤ m → 1 ≤ xs.length) ∧ xs.all nameS = true ∧ xs.Nodup) := fun {b' σ' H' te u} hab' hσ hu h =>
    eg_call (E := E0) (i := 0) (m := 0) (S := fun ds => ∃ m : Nat, ds = [.int (m : Nat)] ∧ m ≤ u) hab' hσ (fun H2 x2 kn2 bg2 Q' q' => (ega_cons (K := K) hab' h ega_nil) H2 x2 kn2 bg2 Q' fun vs ds H3 x3 b3 hvs ⟨d, r', e1, ⟨m, em, hm⟩, er⟩ => q' vs ds H3 x3 b3 hvs ⟨m, by rw [e1, em, er], hm⟩) (fun ds ⟨m, e, hm⟩ => ⟨m, e, by omega⟩) fun ds d ⟨m, e, hm⟩ ⟨m', xs, e', ed, r⟩ => by
      rw [e] at e'
      injection e' with e' _
      injection e' with e'
      have em : m = m' := by omega
      subst em
      exact ⟨m, xs, ed, hm, r⟩
  have pk : EG K b a 0 0 (tOp (rIxL K) (tLst (tCons (tC (.int 1)) (tCons (tC (.int 2)) (tCons (tC (.int 3)) (tCons (tC (.int 8)) tNil))))) (tCall (spTake K) [] E0 (tCons (tVar 0) (tCons (tC (.int 4)) tNil)))) (start NPr [.ref a]) H (fun d => ∃ m : Nat, d = .int (m : Nat) ∧ 1 ≤ m ∧ m ≤ 8) := eg_pick (i := 0) (u := 4) (ds := [.int 1, .int 2, .int 3, .int 8]) hab rfl (fun H3 x3 kn3 => ed_lst kn3 (ea_cons ed_int (ea_cons ed_int (ea_cons ed_int (ea_cons ed_int ea_nil)))) (by decide)) rfl (by decide) (by decide) fun z hz => by
    simp only [List.mem_cons, List.not_mem_nil, or_false] at hz
    rcases hz with rfl | rfl | rfl | rfl
    · exact ⟨1, rfl, by decide, by decide⟩
    · exact ⟨2, rfl, by decide, by decide⟩
    · exact ⟨3, rfl, by decide, by decide⟩
    · exact ⟨8, rfl, by decide, by decide⟩
  have pkN := eg_call (K := K) (b := b) (a := a) (n := 0) (E := E0) (i := 0) (m := 0) (c := 0) (σ := start NPr [.ref a]) (H := H) (pre := NmPre) (R := NmR) (P := fun d => ∃ (xs : List Str), d = .list (xs.map .str) ∧ xs.length ≤ 8 ∧ 1 ≤ xs.length ∧ xs.all nameS = true ∧ xs.Nodup) (S := fun ds => ∃ m : Nat, ds = [.int (m : Nat)] ∧ 1 ≤ m ∧ m ≤ 8) hab rfl (fun H2 x2 kn2 bg2 Q' q' => (ega_cons (K := K) hab pk ega_nil) H2 x2 kn2 bg2 Q' fun vs ds H3 x3 b3 hvs ⟨d, r', e1, ⟨m, em, hm⟩, er⟩ => q' vs ds H3 x3 b3 hvs ⟨m, by rw [e1, em, er], hm⟩) (fun ds ⟨m, e, _, hm⟩ => ⟨m, e, hm⟩) fun ds d ⟨m, e, hm1, hm⟩ ⟨m', xs, e', ed, r1, r2, r3, r4⟩ => by
    rw [e] at e'
    injection e' with e' _
    injection e' with e'
    exact ⟨xs, ed, by omega, r2 (by omega), r3, r4⟩
  refine g_setG pkN kn bg fun vp dp H1 x1 bg1 kn1 hvp ⟨xs, edp, l8, l1, hnm, hnd⟩ => ?_
  subst edp
  refine ⟨by decide, fun F hF => ?_⟩
  have eF : (upd H1 F (.lst [])) F = some (.lst []) := upd_same
  have xF := Ex.new (o := HO.lst []) hF
  have hFa : F ≠ a := fun z => bg1.there (z ▸ hF)
  have hFb : F ∉ b := kn1.new hF
  have hF0 : H F = none := by
    cases z : H F with
    | none => rfl
    | some o => rw [x1 _ _ hFa z] at hF; cases hF
  have knF : Kn (F :: b) (upd H1 F (.lst [])) := fun z hz => by
    rcases List.mem_cons.mp hz with rfl | hz
    · rw [eF]; intro q; cases q
    · exact kn1.up xF z hz
  have hvpF : Dq K (F :: b) (upd H1 F (.lst [])) vp (.list (xs.map .str)) := dp_ex (hid_ex xF) _ _ (Dq.hide hvp hF)
  have x1F : ExB a H (upd H1 F (.lst [])) := x1.trans (exb xF)
  have bgF := bg1.ex xF
  generalize upd H1 F (.lst []) = H2 at eF knF hvpF x1F bgF
  have hab' : a ∈ F :: b := List.mem_cons_of_mem _ hab
  cases hvpF with
  | @lst PL ys _ g1 g2 =>
  have eys := dps_strs g2
  subst eys
  refine ⟨.ref PL, rfl, PL, rfl, ⟨_, ex_l hid_le g1⟩, ?_⟩
  refine for_it (walk_list (K := K) (xs := xs.map V.str)) (fun i σ' H' => ∃ (ps : List Pt) (vs : List V) (u3 u4 u5 : Option V), σ' = [some (.ref a), some (.ref PL), some (.ref F), u3, u4, u5, none] ∧ ExB a H H' ∧ Kn (F :: b) H' ∧ Bag a 0 H' ∧ SqL K (hid (F :: b) H') PL (xs.map V.str) ∧ H' F = some (.lst vs) ∧ DqAll K (F :: b) H' vs (ps.map Pt.d) ∧ ps.map Pt.name = xs.take i ∧ ∀ p ∈ ps, PGood xs p)
    ⟨[], [], none, none, none, rfl, x1F, knF, bgF, g1, eF, .nil, rfl, fun p hp => by cases hp⟩ (fun i σ' H' _ ⟨_, _, _, _, _, _, _, _, _, h, _⟩ => ex_l hid_le h) ?_ ?_
  · intro i xv σ' H3 H3' hi ⟨ps, vs, u3, u4, u5, es, x3, kn3, bg3, sq3, eF3, dv3, hps, hg⟩ ⟨eH, hx⟩
    subst es eH
    rw [List.length_map] at hi
    obtain ⟨x, hxi⟩ : ∃ x, xs[i]? = some x := ⟨_, List.getElem?_eq_getElem hi⟩
    have ex : xv = .str x := by
      rw [List.getElem?_map, hxi] at hx
      exact (Option.some.inj hx).symm
    subst ex
    have hxn : nameS x = true := List.all_eq_true.mp hnm x (List.mem_of_getElem? hxi)
    show tSeq _ _ _ [some (.ref a), some (.ref PL), some (.ref F), some (.str x), u4, u5, none] H3'
    -- many
    have mn : EG K (F :: b) a 0 0 (tOp (rI0 fun i j => .int (i + j)) (tC (.int 1)) (tCall (spTake K) [] E0 (tCons (tVar 0) (tCons (tOp (rIxL K) (tLst (tCons (tC (.int 4)) (tCons (tC (.int 12)) (tCons (tC (.int 4)) (tCons (tC (.int 60)) tNil))))) (tCall (spTake K) [] E0 (tCons (tVar 0) (tCons (tC (.int 4)) tNil)))) tNil)))) [some (.ref a), some (.ref PL), some (.ref F), some (.str x), u4, u5, none] H3' (fun d => ∃ N : Nat, d = .int (N : Nat) ∧ 1 ≤ N ∧ N ≤ 60) :=
      eg_I0 (g := fun i j => i + j) (n := 0) (k := 0) (m := 0) hab' (eg_int (i := 1)) (eg_takeE (E := E0) (i := 0) (n := 0) (m := 0) (u := 60) (P1 := fun d => d = .int 4 ∨ d = .int 12 ∨ d = .int 60) hab' rfl (eg_pick (i := 0) (u := 4) (ds := [.int 4, .int 12, .int 4, .int 60]) hab' rfl (fun H3 x3 kn3 => ed_lst kn3 (ea_cons ed_int (ea_cons ed_int (ea_cons ed_int (ea_cons ed_int ea_nil)))) (by decide)) rfl (by decide) (by decide) fun z hz => by
        simp only [List.mem_cons, List.not_mem_nil, or_false] at hz
        rcases hz with h | h | h | h
        · exact .inl h
        · exact .inr (.inl h)
        · exact .inl h
        · exact .inr (.inr h)) fun d hd => by
          rcases hd with h | h | h
          · exact ⟨4, h, by decide, by decide, by decide⟩
          · exact ⟨12, h, by decide, by decide, by decide⟩
          · exact ⟨60, h, by decide, by decide, by decide⟩) fun d e hd ⟨r, er, r0, r1⟩ => ⟨1, r, hd, er, (1 + r).toNat, by
            show PyData.int (1 + r) = _
            rw [Int.toNat_of_nonneg (by omega)], by omega, by omega⟩
    refine g_setG mn kn3 bg3 fun vN dN H4 x4 bg4 kn4 hvN ⟨N, eN, N1, N60⟩ => ?_
    subst eN
    have evN := dq_int hvN
    subst evN
    -- names_here
    have nh := eg_tupOf (K := K) (b := F :: b) (a := a) (n := 0) (m := 0) (P := fun d => ∃ zs : List Str, d = .tuple (zs.map .str) ∧ zs.length ≤ 3 ∧ zs.all nameS = true ∧ zs.Nodup) (nmE (σ' := [some (.ref a), some (.ref PL), some (.ref F), some (.str x), some (.int (N : Nat)), u5, none]) (H' := H4) (u := 3) hab' rfl (by decide) ((eg_take (E := E0) (i := 0) (u := 4) hab' rfl (by decide) (by decide)).imp fun d ⟨r, e, r0, r1⟩ => ⟨r.toNat, by rw [Int.toNat_of_nonneg r0]; exact e, by omega⟩)) fun d ⟨m, zs, e, hm, hl, _, h1, h2⟩ => ⟨_, e, zs, rfl, by omega, h1, h2⟩
    refine g_setG nh kn4 bg4 fun vz dz H5 x5 bg5 kn5 hvz ⟨zs, ez, lz, hz, ndz⟩ => ?_
    subst ez
    have sq5 := ex_l (hid_exB hab' (x4.trans x5)) sq3
    have eF5 := x5 _ _ hFa (x4 _ _ hFa eF3)
    have dv5 := DqAll.upB hab' dv3 (x4.trans x5)
    -- rows
    have rw_ := eg_lcR (K := K) (b := F :: b) (a := a) (m := 0) (c := 0) (N := N) (i0 := 6) (σ := [some (.ref a), some (.ref PL), some (.ref F), some (.str x), some (.int (N : Nat)), some vz, none]) (H := H5) (ta := tVar 4) (te := tCall (spRo K) [] E0 (tCons (tVar 0) (tCons (tVar 1) (tCons (tVar 6) (tCons (tVar 4) tNil))))) (R := fun i d => ∃ r : Rw, d = r.d ∧ RwIn xs i N r) hab' (fun H6 x6 kn6 => ed_var (i := 4) rfl (.int _)) (by omega) fun Dl j f' H0 H6 hj y0 hD y1 => by
      have habD : a ∈ Dl :: F :: b := List.mem_cons_of_mem _ hab'
      have dPL : Dq K (F :: b) H0 (.ref PL) (.list (xs.map .str)) := .lst (ex_l (hid_exB hab' y0) sq5) (strs_dps xs)
      have dPL2 : Dq K (Dl :: F :: b) H6 (.ref PL) (.list (xs.map .str)) := Dq.upB habD (Dq.hide dPL hD) y1
      refine eg_call (E := E0) (i := 0) (m := 0) (S := fun ds => ds = [.list (xs.map .str), .int (j : Nat), .int (N : Nat)]) habD rfl (fun H7 x7 kn7 bg7 Q' q' => (ega_cons (K := K) habD (eg_pure (P := fun d => d = .list (xs.map .str)) (n := 0) (fun H8 x8 _ => ed_var (i := 1) rfl (Dq.upB habD dPL2 x8)) rfl) (ega_cons habD (eg_pure (P := fun d => d = .int (j : Nat)) (fun H8 x8 _ => ed_var (i := 6) rfl (.int _)) rfl) (ega_cons habD (eg_pure (P := fun d => d = .int (N : Nat)) (fun H8 x8 _ => ed_var (i := 4) rfl (.int _)) rfl) ega_nil))) H7 x7 kn7 bg7 Q' fun vs ds H8 x8 b8 hvs ⟨d1, r1, e1, ed1, d2, r2, e2, ed2, d3, r3, e3, ed3, e4⟩ => q' vs ds H8 x8 b8 hvs (by rw [e1, e2, e3, e4, ed1, ed2, ed3])) (fun ds e => ⟨xs, j, N, e, l1, l8, hnm, hj, N60⟩) fun ds d e ⟨xs', i', N', r, e', ed, hin⟩ => ?_
      rw [e] at e'
      injection e' with e1 e'
      injection e' with e2 e'
      injection e' with e3 _
      injection e1 with e1
      injection e2 with e2
      injection e3 with e3
      have ex : xs = xs' := by
        have := congrArg strsOf e1
        rw [strsOf_map, strsOf_map] at this
        exact this
      have ei : j = i' := by omega
      have eN : N = N' := by omega
      subst ex ei eN
      exact ⟨r, ed, hin⟩
    have tr := eg_tupOf (K := K) (P := fun d => ∃ rs : List Rw, d = .tuple (rs.map Rw.d) ∧ rs.length = N ∧ ∀ (i : Nat) (r : Rw), rs[i]? = some r → RwIn xs i N r) rw_ fun d ⟨ds, e, hl, hR⟩ => by
      obtain ⟨rs, e2, h2⟩ := rows_back hR
      exact ⟨ds, e, rs, by rw [e2], by rw [e2, List.length_map] at hl; exact hl, h2⟩
    have tp := eg_tup (K := K) (P := fun d => ∃ p : Pt, d = p.d ∧ p.name = x ∧ PGood xs p) (ega_cons (K := K) (P := fun d => d = .str x) hab' (eg_pure (fun H6 _ _ => ed_var (i := 3) rfl (.str x)) rfl) (ega_cons (P := fun d => d = .tuple (zs.map .str)) hab' (eg_pure (fun H6 x6 _ => ed_var (i := 5) rfl (Dq.upB hab' hvz x6)) rfl) (ega_cons hab' tr (ega_nil (n := 0))))) fun ds ⟨d1, r1, e1, ed1, d2, r2, e2, ed2, d3, r3, e3, ⟨rs, ed3, hl, hR⟩, e4⟩ => by
      rw [e1, e2, e3, e4, ed1, ed2, ed3]
      refine ⟨sz3 (by decide), ⟨x, zs, rs⟩, rfl, rfl, hxn, hz, ndz, lz, by show 1 ≤ rs.length; omega, by show rs.length ≤ 60; omega, ?_⟩
      rw [← hl] at hR
      exact hR
    have lvs : vs.length ≤ 8 := by
      rw [dps_len dv3, List.length_map]
      have := congrArg List.length hps
      rw [List.length_map, List.length_take] at this
      omega
    refine g_appG (vs := vs) (j := 2) rfl hFa eF5 (by omega) tp kn5 bg5 fun y d H6 x6 bg6 hy ⟨p, ep, epn, hpg⟩ => ?_
    subst ep
    have hFm : F ∈ F :: b := List.mem_cons_self
    have hh : hid (F :: b) (upd H6 F (.lst (vs ++ [y]))) = hid (F :: b) H6 := hid_upd hFm
    refine ⟨ps ++ [p], vs ++ [y], _, _, _, rfl, ?_, ?_, ?_, ?_, upd_same, ?_, ?_, ?_⟩
    · intro c o hc h
      have hcF : c ≠ F := fun z => by rw [z, hF0] at h; cases h
      rw [upd_ne hcF]
      exact x6 c o hc (x5 c o hc (x4 c o hc (x3 c o hc h)))
    · intro z hz
      by_cases e : z = F
      · rw [e, upd_same]; intro q; cases q
      · rw [upd_ne e]
        exact x6.kn kn5 bg6 z hz
    · obtain ⟨g', x', h1, r'⟩ := bg6
      exact ⟨g', x', by rw [upd_ne (Ne.symm hFa)]; exact h1, r'⟩
    · rw [hh]
      exact ex_l (hid_exB hab' x6) sq5
    · show DdAll K (hid _ _) _ _
      rw [hh, List.map_append]
      exact dps_app (DqAll.upB hab' dv5 x6) (.cons hy .nil)
    · rw [List.map_append, hps, List.take_add_one, hxi]
      show _ ++ [p.name] = _
      rw [epn]
      rfl
    · intro p' hp'
      rcases List.mem_append.mp hp' with h | h
      · exact hg p' h
      · rw [List.mem_singleton.mp h]
        exact hpg
  · intro σ' H3 ⟨ps, vs, u3, u4, u5, es, x3, kn3, bg3, sq3, eF3, dv3, hps, hg⟩
    subst es
    dsimp only
    rw [List.length_map, List.take_of_length_le (Nat.le_refl _)] at hps
    have lps : ps.length = xs.length := by
      have := congrArg List.length hps
      rw [List.length_map] at this
      exact this
    have kb : Kn b H3 := fun z hz => kn3 z (List.mem_cons_of_mem _ hz)
    refine ⟨.ref F, rfl, F, vs, rfl, .inl (.inl eF3), fun l o hl ho => ?_⟩
    refine q _ (prD ps) _ (x3.trans (exb (Ex.new hl))) (bg3.ex (Ex.new hl)) (dq_newT kb hl ho (dps_ex show_ex _ _ dv3)) ⟨ps, rfl, good_of (by omega) (by omega) (by rw [hps]; exact hg) (by rw [hps]; exact hnd)⟩
end
end Wr

set_option Elab.async false
set_option linter.all false
set_option maxRecDepth 100000
set_option maxHeartbeats 4000000
namespace Wr
open PySem PySem.Spec PyProof.Rows L2 Evl TL
abbrev s_fg : Stmt := topS 59
abbrev NFg : List Str := ["_law_number", "_law_text"]
theorem sc_fg : FnScope NFg ["_law_number"] (defScope s_fg) := ⟨rfl, rfl, rfl, by decide +kernel, rfl, by decide +kernel, by decide +kernel⟩
def FgPre0 (ds : List PyData) : Prop := ∃ n : Nat, ds = [.int (n : Nat)] ∧ n ≤ 1000000000000000000000000000000000000000
def FgPre (ds : List PyData) : Prop := ∃ i : Int, ds = [.int i] ∧ i.natAbs ≤ 1000000000000000000000000000000000000000
def fgF (ds : List PyData) : PyData := match ds with
  | [.int i] => .str (numT i)
  | _ => .none
theorem ten_at {i : Nat} (h : i < 10) : atI tenT.cps.toList (i : Int) = some (48 + i) := by
  have e : tenT.cps.toList = tenL := tl_ten
  rw [e]
  have : i = 0 ∨ i = 1 ∨ i = 2 ∨ i = 3 ∨ i = 4 ∨ i = 5 ∨ i = 6 ∨ i = 7 ∨ i = 8 ∨ i = 9 := by omega
  rcases this with h | h | h | h | h | h | h | h | h | h <;> subst h <;> exact atI_nat rfl
def restL (n : Nat) : List Nat := if n < 10 then [] else numL (n / 10)
theorem rest_start (n : Nat) : numL n = restL n ++ [48 + n % 10] := by
  unfold restL
  by_cases h : n < 10
  · rw [if_pos h, numL_lt h, List.nil_append, Nat.mod_eq_of_lt h]
  · rw [if_neg h, numL_step (by omega)]
theorem rest_step {n : Nat} (h : 10 ≤ n) : restL n = restL (n / 10) ++ [48 + n / 10 % 10] := by
  have e : restL n = numL (n / 10) := if_neg (by omega)
  rw [e, ← rest_start]
theorem numT_nat (n : Nat) : tl (numT (n : Int)) = numL n := by
  unfold numT
  rw [tl_num]
section
variable {P : Program} {w : World} {K : PySem.W.Frag} {mg : Str → Option Value} {base : Heap} {f g g2 g3 : Addr} {fd gd gd2 gd3 : FuncData}
theorem fg_body {b : List Addr} {n : Nat} {H : Hp} {Q : VK} (hn : n ≤ 1000000000000000000000000000000000000000) (q : ∀ v H', Ex H H' → Dq K b H' v (.str (numT (n : Int))) → Q v H') :
    tSeq (tAsg (tOp rIxS (tC (.str "0123456789")) (tOp (rI (fun _ j => 0 < j) fun i j => .int (i % j)) (tVar 0) (tC (.int 10)))) (gName 1))
      (tSeq (tWhile (tTest (tOp (rI0 fun i j => .bl (decide (j < i))) (tVar 0) (tC (.int 9)))) (tSeq (tAsg (tOp (rI CDiv fun i j => .int (i / j)) (tVar 0) (tC (.int 10))) (gName 0)) (tAsg (tOp rAddT (tOp rIxS (tC (.str "0123456789")) (tOp (rI (fun _ j => 0 < j) fun i j => .int (i % j)) (tVar 0) (tC (.int 10)))) (tVar 1)) (gName 1)))) (tRet (tVar 1)))
      { nx := fun _ H' => Q .non H', rt := Q } [some (.int (n : Nat)), none] H := by
  have hsl : sizeLine = 16777216 := sizeLine_eq
  have dg : ∀ {m : Nat} {u : Option V} {H' : Hp}, ED K b (tOp rIxS (tC (.str "0123456789")) (tOp (rI (fun _ j => 0 < j) fun i j => .int (i % j)) (tVar 0) (tC (.int 10)))) [some (.int (m : Nat)), u] H' (.str ⟨#[48 + m % 10]⟩) := fun {m u H'} => by
    refine ed_ixS (i := ((m % 10 : Nat) : Int)) (ed_str (x := tenT)) ((ed_mod (ed_var (i := 0) rfl (.int _)) (ed_int (i := 10)) (by decide)).to ?_) (by decide +kernel) (ten_at (Nat.mod_lt m (by decide)))
    show PyData.int ((m : Int) % 10) = .int ((m % 10 : Nat) : Int)
    congr 1
  refine g_set dg fun v1 H1 x1 hv1 => ?_
  have e1 := dq_str hv1
  subst e1
  show tSeq _ _ _ [some (.int (n : Nat)), some (.str ⟨#[48 + n % 10]⟩)] H1
  refine ⟨fun m σ' H' => ∃ (k : Nat) (T : Str), σ' = [some (.int (k : Nat)), some (.str T)] ∧ m = k ∧ Ex H H' ∧ k ≤ n ∧ numL n = restL k ++ tl T ∧ (tl T).length ≤ 40, ⟨n, n, _, rfl, rfl, x1, Nat.le_refl n, rest_start n, by show 1 ≤ 40; decide⟩, ?_⟩
  rintro m σ' H2 ⟨k, T, rfl, em, x2, hk, hT, hTl⟩
  have em := em.symm
  subst em
  refine (et_t (ed_gt (K := K) (b := b) (ed_var (i := 0) rfl (.int _)) (ed_int (i := 9)))) H2 (Ex.refl H2) _ fun H3 x3 => ?_
  have x23 := x2.trans x3
  by_cases h9 : 9 < k
  · rw [decide_eq_true (show (9 : Int) < (k : Nat) by omega), if_pos rfl]
    refine ⟨fun σ' H' => ∃ T' : Str, σ' = [some (.int ((k / 10 : Nat) : Int)), some (.str T')] ∧ Ex H H' ∧ numL n = restL (k / 10) ++ tl T' ∧ (tl T').length ≤ 40, fun σ' H' ⟨T', e, x, h, hl⟩ => ⟨k / 10, by omega, k / 10, T', e, rfl, x, by omega, h, hl⟩, ?_⟩
    refine g_set ((ed_fdiv (K := K) (b := b) (ed_var (i := 0) rfl (.int _)) (ed_int (i := 10)) ⟨by decide, by decide⟩).to (e := .int ((k / 10 : Nat) : Int)) (by congr 1)) fun v4 H4 x4 hv4 => ?_
    have e4 := dq_int hv4
    subst e4
    have hT' : numL n = restL (k / 10) ++ (48 + k / 10 % 10) :: tl T := by
      rw [hT, rest_step (by omega), List.append_assoc]
      rfl
    have hlen : (tl T).length + 1 ≤ 40 := by
      have h1 := numL_len (n := n) (k := 40) (by decide) (by omega)
      rw [hT', List.length_append, List.length_cons] at h1
      omega
    refine (ed_addT (K := K) (b := b) dg (ed_var (i := 1) (d := .str T) rfl (.str T)) (by
      show 1 + T.length ≤ sizeLine
      rw [len_tl]
      omega)) H4 (Ex.refl H4) _ fun v5 H5 x5 hv5 => ?_
    have e5 := dq_str hv5
    subst e5
    refine ⟨_, rfl, (x23.trans x4).trans x5, ?_, ?_⟩
    · rw [tl_append]
      exact hT'
    · rw [tl_append, List.length_append]
      show 1 + _ ≤ 40
      omega
  · rw [decide_eq_false (show ¬ (9 : Int) < (k : Nat) by omega), if_neg Bool.false_ne_true]
    have er : restL k = [] := if_pos (by omega)
    rw [er, List.nil_append] at hT
    have eT : T = numT (n : Int) := ext_tl (by rw [numT_nat, hT])
    refine ⟨_, rfl, q _ H3 x23 ?_⟩
    rw [eT]
    exact .str _
theorem ok_fg0 (D : Def K mg "_law_figures" s_fg ["_law_number"] f fd) : FnOk P w K mg base CX0 1 f fd ["_law_number"] (spP K FgPre0 fgF) := by
  refine D.F.ok sc_fg (fun vs H Q E h => spP_len (fun _ ⟨_, e, _⟩ => by rw [e]; rfl) h) (fun cdv A outer s H vs Q E hr h => ?_)
  obtain ⟨b, ds, kn, hd, ⟨n, rfl, hn⟩, q⟩ := h
  obtain ⟨v, d, rfl, ed, h1⟩ := one_of hd rfl
  cases ed
  have ev := dq_int h1
  subst ev
  refine ⟨_, pss_cons (ps_if (pt_cmpR op_lt (pv 0) pe_int (nomark _)) (pss_one ps_off) pss_nil)
    (pss_cons (ps_set (i := 1) sc_fg.nd rfl (Or.inl rfl) (pe_ix ix_str pe_str (pe_op op_mod (pv 0) pe_int) (fun _ _ => rfl)))
    (pss_cons (ps_while PassesOwn.never (pt_cmpR op_gt (pv 0) pe_int (nomark _)) (pss_cons (ps_set (i := 0) sc_fg.nd rfl (Or.inl rfl) (pe_op op_fdiv (pv 0) pe_int))
    (pss_one (ps_set (i := 1) sc_fg.nd rfl (Or.inl rfl) (pe_op op_addT (pe_ix ix_str pe_str (pe_op op_mod (pv 0) pe_int) (fun _ _ => rfl)) (pv 1))))))
    (pss_one (ps_ret (pv 1))))), ?_⟩
  have t := et_t (ed_lt (K := K) (b := b) (σ := start NFg [.int (n : Nat)]) (H := H) (ed_var (i := 0) rfl (.int _)) (ed_int (i := 0)))
  rw [decide_eq_false (show ¬ ((n : Nat) : Int) < 0 by omega)] at t
  exact g_ifF t fun H1 x1 => fg_body (b := b) hn fun v H' x hv => q v H' (x1.trans x) hv
theorem ok_fg (D : Def K mg "_law_figures" s_fg ["_law_number"] f fd) : FnOk P w K mg base CX0 2 f fd ["_law_number"] (spP K FgPre fgF) := by
  have G0 := ok_fg0 (P := P) (w := w) (base := base) D
  refine D.F.ok sc_fg (fun vs H Q E h => spP_len (fun _ ⟨_, e, _⟩ => by rw [e]; rfl) h) (fun cdv A outer s H vs Q E hr h => ?_)
  obtain ⟨b, ds, kn, hd, ⟨i, rfl, hi⟩, q⟩ := h
  obtain ⟨v, d, rfl, ed, h1⟩ := one_of hd rfl
  cases ed
  have ev := dq_int h1
  subst ev
  refine ⟨_, pss_cons (ps_if (pt_cmpR op_lt (pv 0) pe_int (nomark _)) (pss_one (ps_ret (pe_op op_addT pe_str (pe_cd D G0 hr (pa_cons (pe_op op_sub pe_int (pv 0)) pa_nil))))) pss_nil)
    (pss_cons (ps_set (i := 1) sc_fg.nd rfl (Or.inl rfl) (pe_ix ix_str pe_str (pe_op op_mod (pv 0) pe_int) (fun _ _ => rfl)))
    (pss_cons (ps_while PassesOwn.never (pt_cmpR op_gt (pv 0) pe_int (nomark _)) (pss_cons (ps_set (i := 0) sc_fg.nd rfl (Or.inl rfl) (pe_op op_fdiv (pv 0) pe_int))
    (pss_one (ps_set (i := 1) sc_fg.nd rfl (Or.inl rfl) (pe_op op_addT (pe_ix ix_str pe_str (pe_op op_mod (pv 0) pe_int) (fun _ _ => rfl)) (pv 1))))))
    (pss_one (ps_ret (pv 1))))), ?_⟩
  have hsl : sizeLine = 16777216 := sizeLine_eq
  have t := et_t (ed_lt (K := K) (b := b) (σ := start NFg [.int i]) (H := H) (ed_var (i := 0) rfl (.int _)) (ed_int (i := 0)))
  by_cases h0 : i < 0
  · rw [decide_eq_true h0] at t
    refine g_ifT t fun H1 x1 => ?_
    obtain ⟨n, hn⟩ : ∃ n : Nat, 0 - i = (n : Int) := ⟨(0 - i).toNat, by omega⟩
    have cl := ed_call (K := K) (b := b) (σ := [some (.int i), none]) (H := H1) (pre := FgPre0) (f := fgF) (E := E0) (kn.up x1) (ea_cons ((ed_sub (ed_int (i := 0)) (ed_var (i := 0) rfl (.int i))).to (e := .int (n : Nat)) (by show PyData.int (0 - i) = _; rw [hn])) ea_nil) ⟨n, rfl, by omega⟩
    have cl : ED K b _ _ H1 (.str (numT (n : Int))) := cl
    have ln : (numT (n : Int)).length ≤ 50 := numT_len.len _ (by omega)
    refine (ed_addT (ed_str (x := "-")) cl (by
      have : ("-" : Str).length = 1 := by decide +kernel
      omega)) H1 (Ex.refl H1) _ fun v2 H2 x2 hv2 => q _ H2 (x1.trans x2) ?_
    have e : ("-" : Str) ++ numT (n : Int) = numT i := ext_tl (by
      rw [tl_append, numT_nat]
      unfold numT
      rw [tl_int]
      unfold intL
      rw [if_pos h0, tl_m]
      have : (-i).toNat = n := by omega
      rw [this]
      rfl)
    rw [e] at hv2
    exact hv2
  · rw [decide_eq_false h0] at t
    obtain ⟨n, rfl⟩ : ∃ n : Nat, i = (n : Int) := ⟨i.toNat, by omega⟩
    exact g_ifF t fun H1 x1 => fg_body (b := b) (by omega) fun v H' x hv => q v H' (x1.trans x) hv
end
end Wr

set_option Elab.async false
set_option linter.all false
set_option maxRecDepth 100000
set_option maxHeartbeats 4000000
namespace Wr
open PySem PySem.Spec PyProof.Rows L2 Evl TL
abbrev s_wr : Stmt := topS 60
abbrev NWr : List Str := ["_law_program_here", "_law_rows", "_law_name", "_law_names_here", "_law_own_rows", "_law_at", "_law_row_here", "_law_words", "_law_thing"]
theorem sc_wr : FnScope NWr ["_law_program_here"] (defScope s_wr) := ⟨rfl, rfl, rfl, by decide +kernel, rfl, by decide +kernel, by decide +kernel⟩
def rListOf (K : PySem.W.Frag) : List V → Hp → VK → Prop := fun xs H Q => ∃ p ys, xs = [.ref p] ∧ (SqL K H p ys ∨ SqT K H p ys) ∧ ∀ l, H l = none → Q (.ref l) (upd H l (.lst ys))
theorem call_listF {X : Cx} : CallR X (.type "list") (rListOf X.K) := call_list_of
theorem two_cut : ((List.range 100).all fun n => cutS (("0" : Str) ++ numT ((n : Nat) : Int)) (some (-2)) none == twoS n) = true := by decide +kernel
theorem two_at {n : Nat} (h : n < 100) : cutS (("0" : Str) ++ numT ((n : Nat) : Int)) (some (-2)) none = twoS n := eq_of_beq (List.all_eq_true.mp two_cut n (List.mem_range.mpr h))
/-- a row's first word, and what it has -/
theorem row_tx2 {r : Rw} (h : RwOk r) : ∃ w ds rest, r.d = .tuple (.str w :: ds) ∧ r.wsW numT = w :: rest ∧ ds.length ≤ 1 ∧ ds.length = rest.length ∧ ∀ (j : Nat) (d : PyData), ds[j]? = some d → (∃ x, d = .str x ∧ rest[j]? = some x) ∨ ∃ i : Int, d = .int i ∧ i.natAbs ≤ 1000000000000000000000000000000000000000 ∧ rest[j]? = some (numT i) := by
  cases r with
  | lone w => exact ⟨w, [], [], rfl, rfl, by decide, rfl, fun j d hd => by cases hd⟩
  | nm w x => exact ⟨w, [.str x], [x], rfl, rfl, Nat.le_refl 1, rfl, fun j d hd => by
      cases j with
      | zero => exact .inl ⟨x, (Option.some.inj hd).symm, rfl⟩
      | succ j => cases hd⟩
  | num w i =>
    have h : (w = "put" ∧ i.natAbs ≤ 1000000000000000000000000000000000000000) ∨ (w ∈ rowW ∧ 0 ≤ i ∧ i ≤ 60) := h
    exact ⟨w, [.int i], [numT i], rfl, rfl, Nat.le_refl 1, rfl, fun j d hd => by
      cases j with
      | zero => exact .inr ⟨i, (Option.some.inj hd).symm, by rcases h with ⟨_, h⟩ | ⟨_, _, _⟩; exact h; omega, rfl⟩
      | succ j => cases hd⟩
section
variable {P : Program} {w : World} {K : PySem.W.Frag} {mg : Str → Option Value} {base : Heap} {f g : Addr} {fd gd : FuncData}
theorem ok_wr (D : Def K mg "_law_written" s_wr ["_law_program_here"] f fd) (Df : Def K mg "_law_figures" s_fg ["_law_number"] g gd) (Gf : FnOk P w K mg base CX0 2 g gd ["_law_number"] (spP K FgPre fgF)) (B : Blt mg) : FnOk P w K mg base CX0 3 f fd ["_law_program_here"] (spWr K) := by
  refine D.F.ok sc_wr (fun vs H Q E ⟨_, _, _, e, _⟩ => by rw [e]; rfl) (fun cdv A outer s H vs Q E hr h => ?_)
  obtain ⟨b, v, ps, rfl, kn, h1, G, q⟩ := h
  refine ⟨_, pss_cons (ps_set (i := 1) sc_wr.nd rfl (Or.inl rfl) (pe_lst pa_nil))
    (pss_cons (ps_for PassesOwn.never rfl (pi_tup (pv 0)) (pg_tup rfl (pgs_cons (pg_name (i := 2) sc_wr.nd rfl (Or.inl rfl)) (pgs_cons (pg_name (i := 3) sc_wr.nd rfl (Or.inl rfl)) (pgs_cons (pg_name (i := 4) sc_wr.nd rfl (Or.inl rfl)) pgs_nil)))) (pss_cons (ps_expr (pe_bm PySem.F.plainAttrs_list PySem.F.slot_list_append PySem.F.type_list_append mt_append (pv 1) (pa_cons (pe_bm PySem.F.plainAttrs_str PySem.F.slot_str_join PySem.F.type_str_join mt_joinD pe_str (pa_cons (pe_op op_cat (pe_lst (pa_cons pe_str (pa_cons (pv 2) pa_nil))) (pe_callTy call_listF rfl B.list bt_list (pa_cons (pv 3) pa_nil))) pa_nil)) pa_nil)))
    (pss_one (ps_for PassesOwn.never rfl (pi_enumT rfl B.enum (pa_cons (pv 4) pa_nil)) (pg_tup rfl (pgs_cons (pg_name (i := 5) sc_wr.nd rfl (Or.inl rfl)) (pgs_cons (pg_name (i := 6) sc_wr.nd rfl (Or.inl rfl)) pgs_nil))) (pss_cons (ps_set (i := 7) sc_wr.nd rfl (Or.inl rfl) (pe_lst (pa_cons (pe_slice sl_str (pe_op op_addT pe_str (pe_cd Df Gf hr (pa_cons (pv 5) pa_nil))) (po_some (pe_un un_neg pe_int)) po_none) (pa_cons (pe_ix ix_tup (pv 6) pe_int (fun _ _ => rfl)) pa_nil))))
    (pss_cons (ps_for PassesOwn.never rfl (pi_tup (pe_slice sl_tupF (pv 6) (po_some pe_int) po_none)) (pg_name (i := 8) sc_wr.nd rfl (Or.inl rfl)) (pss_one (ps_expr (pe_bm PySem.F.plainAttrs_list PySem.F.slot_list_append PySem.F.type_list_append mt_append (pv 7) (pa_cons (pe_ifExp (pt_val (pe_callB call_isi rfl B.isi bb_isinstance (pa_cons (pv 8) (pa_cons (pe_tyN rfl B.str bt_str) pa_nil)))) (pv 8) (pe_cd Df Gf hr (pa_cons (pv 8) pa_nil))) pa_nil)))))
    (pss_one (ps_expr (pe_bm PySem.F.plainAttrs_list PySem.F.slot_list_append PySem.F.type_list_append mt_append (pv 1) (pa_cons (pe_bm PySem.F.plainAttrs_str PySem.F.slot_str_join PySem.F.type_str_join mt_joinD pe_str (pa_cons (pv 7) pa_nil)) pa_nil))))))))))
    (pss_one (ps_ret (pe_bm PySem.F.plainAttrs_str PySem.F.slot_str_join PySem.F.type_str_join mt_joinD pe_str (pa_cons (pv 1) pa_nil))))), ?_⟩
  have hsl : sizeLine = 16777216 := sizeLine_eq
  obtain ⟨n1, n2, n3⟩ := show_len numT_len G
  refine ⟨by decide, fun L hL => ?_⟩
  have x2 : Ex H (upd H L (.lst [])) := Ex.new hL
  have eL : (upd H L (.lst [])) L = some (.lst []) := upd_same
  have h12 := Dq.hide h1 hL
  generalize upd H L (.lst []) = H2 at x2 eL
  have h13 : Dq K (L :: b) H2 v (prD ps) := dp_ex (hid_ex x2) _ _ h12
  have kn2 : Kn (L :: b) H2 := fun z hz => by
    rcases List.mem_cons.mp hz with rfl | hz
    · rw [eL]; intro q; cases q
    · exact kn.up x2 z hz
  have hLb : L ∈ L :: b := List.mem_cons_self
  have h14 := h13
  cases h14 with
  | @tup pa xs _ g1 gN g2 =>
  have lxs : xs.length = ps.length := by rw [dps_len g2, List.length_map]
  refine ⟨.ref pa, rfl, pa, rfl, ⟨xs, ex_t hid_le g1⟩, ?_⟩
  refine for_it (walk_tup (K := K) (xs := xs)) (fun i σ' H' => ∃ (u2 u3 u4 u5 u6 u7 u8 : Option V), σ' = [some (.ref pa), some (.ref L), u2, u3, u4, u5, u6, u7, u8] ∧ Ex H H' ∧ Kn (L :: b) H' ∧ DdAll K (hid (L :: b) H') xs (ps.map Pt.d) ∧ SqT K (hid (L :: b) H') pa xs ∧ H' L = some (.lst ((linesW numT (ps.take i)).map V.str)))
    ⟨none, none, none, none, none, none, none, rfl, x2, kn2, g2, g1, eL⟩ (fun i σ' H' _ ⟨_, _, _, _, _, _, _, _, _, _, _, h, _⟩ => ex_t hid_le h) ?_ ?_
  · intro i xv σ' H3 H3' hi ⟨u2, u3, u4, u5, u6, u7, u8, es, x3, kn3, k1, k2, e3⟩ ⟨eH, hx⟩
    subst es eH
    rw [lxs] at hi
    obtain ⟨p, hp⟩ : ∃ p, ps[i]? = some p := ⟨_, List.getElem?_eq_getElem hi⟩
    have ok := G.ok p (List.mem_of_getElem? hp)
    obtain ⟨d, hdi, dd⟩ := dps_at k1 hx
    have ed : d = p.d := by
      rw [List.getElem?_map, hp] at hdi
      exact (Option.some.inj hdi).symm
    subst ed
    cases dd with
    | @tup pp ys _ f1 fN f2 =>
    cases f2 with
    | @cons v1 _ _ _ a1 f2 =>
    cases f2 with
    | @cons v2 _ _ _ a2 f2 =>
    cases f2 with
    | @cons v3 _ _ _ a3 f2 =>
    cases f2
    refine ⟨pp, _, rfl, ex_t hid_le f1, rfl, v1, _, rfl, v2, _, rfl, v3, _, rfl, rfl, ?_⟩
    have hl0 : (linesW numT (ps.take i)).length ≤ 558 := by
      have h1 := lines_count numT (ps := ps.take i) fun q hq => G.ok q (List.mem_of_mem_take hq)
      rw [List.length_take] at h1
      have := G.l9
      omega
    -- the heading
    obtain ⟨w1, w2⟩ := head_ws ok
    have wb := (join_len bl_len (c := 50) (n := 6) (fun w hw => (w2 w hw).1) w1).2
    have ev1 := dq_str a1
    subst ev1
    have hcat : ED K (L :: b) (tOp rCat (tLst (tCons (tC (.str "part")) (tCons (tVar 2) tNil))) (tCB (rListOf K) (tCons (tVar 3) tNil))) [some (.ref pa), some (.ref L), some (.str p.name), some v2, some v3, u5, u6, u7, u8] H3' (.list ((("part" : Str) :: p.name :: p.names).map .str)) := fun H4 x4 Q' q' => by
      refine ⟨.str p.name, rfl, by show 2 ≤ sizeLine; decide, fun p1 hp1 => ?_⟩
      have xa := Ex.new (o := HO.lst [V.str "part", .str p.name]) hp1
      have a2' := Dq.up a2 (x4.trans xa)
      cases a2' with
      | @tup pn ns _ c1 cN c2 =>
      have ens := dps_strs c2
      subst ens
      refine ⟨.ref pn, rfl, pn, _, rfl, .inr (ex_t hid_le c1), fun l hl => ?_⟩
      have xb := Ex.new (o := HO.lst (p.names.map V.str)) hl
      refine ⟨p1, l, _, _, rfl, rfl, xb _ _ upd_same, upd_same, by
        rw [List.length_map]
        show 2 + _ ≤ _
        have := ok.l3
        omega, fun p2 hp2 => ?_⟩
      have xc := Ex.new (o := HO.lst ([V.str "part", .str p.name] ++ p.names.map V.str)) hp2
      have xx := (xa.trans xb).trans xc
      have kn4 := ((kn3.up x4).up xa).up xb
      exact q' _ _ xx (.lst (.inl (.inl (hid_new (kn4.new hp2)))) (strs_dps (("part" : Str) :: p.name :: p.names)))
    have hd := ed_joinB (K := K) (b := L :: b) (z := bl1) (ys := ("part" : Str) :: p.name :: p.names) (ed_str (x := " ")) hcat (by omega)
    refine g_app (vs := (linesW numT (ps.take i)).map V.str) (j := 1) rfl e3 (by rw [List.length_map]; omega) hd fun y H4 x4 hy => ?_
    have ey := dq_str hy
    subst ey
    have x34 := x3.trans x4
    have e4 : (upd H4 L (.lst ((linesW numT (ps.take i)).map V.str ++ [.str (Txt.join bl1 (("part" : Str) :: p.name :: p.names))]))) L = some (.lst ((linesW numT (ps.take i) ++ [headL p]).map V.str)) := by
      rw [upd_same, List.map_append]
      rfl
    have hh4 : hid (L :: b) (upd H4 L (.lst ((linesW numT (ps.take i)).map V.str ++ [.str (Txt.join bl1 (("part" : Str) :: p.name :: p.names))]))) = hid (L :: b) H4 := hid_upd hLb
    have xH4 : Ex H (upd H4 L (.lst ((linesW numT (ps.take i)).map V.str ++ [.str (Txt.join bl1 (("part" : Str) :: p.name :: p.names))]))) := Ex.mut x34 hL
    have kn4 : Kn (L :: b) (upd H4 L (.lst ((linesW numT (ps.take i)).map V.str ++ [.str (Txt.join bl1 (("part" : Str) :: p.name :: p.names))]))) := fun z hz => by
      by_cases e : z = L
      · rw [e, upd_same]; intro q; cases q
      · rw [upd_ne e]; exact kn3.up x4 z hz
    generalize upd H4 L (.lst ((linesW numT (ps.take i)).map V.str ++ [.str (Txt.join bl1 (("part" : Str) :: p.name :: p.names))])) = H5 at e4 hh4 xH4 kn4
    have c1 : DdAll K (hid (L :: b) H5) xs (ps.map Pt.d) := by rw [hh4]; exact dps_ex (hid_ex x4) _ _ k1
    have c2 : SqT K (hid (L :: b) H5) pa xs := by rw [hh4]; exact ex_t (hid_ex x4) k2
    have c3 : Dd K (hid (L :: b) H5) v3 (.tuple (p.rows.map Rw.d)) := by rw [hh4]; exact dp_ex (hid_ex x4) _ _ a3
    cases c3 with
    | @tup pr rs _ r1 rN r2 =>
    have lrs : rs.length = p.rows.length := by rw [dps_len r2, List.length_map]
    refine ⟨.ref pr, rfl, pr, rs, rfl, ex_t hid_le r1, ?_⟩
    refine for_it (walk_enumT (K := K) (xs := rs)) (fun j σ' H' => ∃ (u5 u6 u7 u8 : Option V), σ' = [some (.ref pa), some (.ref L), some (.str p.name), some v2, some (.ref pr), u5, u6, u7, u8] ∧ Ex H H' ∧ Kn (L :: b) H' ∧ DdAll K (hid (L :: b) H') xs (ps.map Pt.d) ∧ SqT K (hid (L :: b) H') pa xs ∧ SqT K (hid (L :: b) H') pr rs ∧ DdAll K (hid (L :: b) H') rs (p.rows.map Rw.d) ∧ H' L = some (.lst ((linesW numT (ps.take i) ++ (headL p :: rowsLW numT 0 (p.rows.take j))).map V.str)))
      ⟨u5, u6, u7, u8, rfl, xH4, kn4, c1, c2, r1, r2, e4⟩ (fun j σ' H' _ ⟨_, _, _, _, _, _, _, _, _, h, _⟩ => ex_t hid_le h) ?_ ?_
    · intro j xv σ' H6 H6' hj ⟨u5, u6, u7, u8, es, x6, kn6, c1, c2, c3, c4, e6⟩ ⟨T, y1, y2, t1, t2, t3, t4, t5⟩
      subst es t1 t3
      have ey1 : y1 = .int (j : Nat) := (Option.some.inj t4).symm
      subst ey1
      rw [lrs] at hj
      obtain ⟨r, hr'⟩ : ∃ r, p.rows[j]? = some r := ⟨_, List.getElem?_eq_getElem hj⟩
      have rok := ok.rs r (List.mem_of_getElem? hr')
      have j60 : j < 61 := Nat.lt_of_lt_of_le hj ok.r60
      obtain ⟨d, hdj, dd⟩ := dps_at c4 t5
      have ed : d = r.d := by
        rw [List.getElem?_map, hr'] at hdj
        exact (Option.some.inj hdj).symm
      subst ed
      have xT := Ex.new (o := HO.tup [.int (j : Nat), y2]) t2
      have hT : (upd H6 T (.tup [.int (j : Nat), y2])) T = some (.tup [.int (j : Nat), y2]) := upd_same
      generalize upd H6 T (.tup [.int (j : Nat), y2]) = H7 at xT hT
      refine ⟨T, _, rfl, .inl (.inl hT), rfl, _, _, rfl, y2, _, rfl, rfl, ?_⟩
      obtain ⟨rw0, rds, rest, erd, ews, lrd, lre, krd⟩ := row_tx2 rok
      rw [erd] at dd
      have dd7 : Dq K (L :: b) H7 y2 (.tuple (.str rw0 :: rds)) := dp_ex (hid_ex xT) _ _ dd
      have kn7 := kn6.up xT
      obtain ⟨w1, w2⟩ := row_ws numT_len rok (n := j) (by omega)
      have wb := (join_len bl_len (c := 50) (n := 3) (fun w hw => (w2 w hw).1) w1).2
      rw [ews] at wb
      -- words
      have ln : (numT ((j : Nat) : Int)).length ≤ 50 := numT_len.len _ (by omega)
      have cl : ED K (L :: b) (tCall (spP K FgPre fgF) [] E0 (tCons (tVar 5) tNil)) [some (.ref pa), some (.ref L), some (.str p.name), some v2, some (.ref pr), some (.int (j : Nat)), some y2, u7, u8] H7 (.str (numT ((j : Nat) : Int))) := ed_call (pre := FgPre) (f := fgF) kn7 (ea_cons (ed_var (i := 5) (d := .int (j : Nat)) rfl (.int _)) ea_nil) ⟨_, rfl, by omega⟩
      have two := (ed_slS (K := K) (b := L :: b) (ed_addT (ed_str (x := "0")) cl (by
        have : ("0" : Str).length = 1 := by decide +kernel
        omega)) (eo_some (K := K) (b := L :: b) (ed_neg (ed_int (i := 2)))) eo_none (by
        rw [PySem.Str.length_append]
        have : ("0" : Str).length = 1 := by decide +kernel
        omega)).to (e := .str (twoS j)) (by
        show PyData.str (cutS (("0" : Str) ++ numT ((j : Nat) : Int)) (some (-2)) none) = _
        rw [two_at (by omega)])
      have i0 := ed_ixT (K := K) (b := L :: b) (σ := [some (.ref pa), some (.ref L), some (.str p.name), some v2, some (.ref pr), some (.int (j : Nat)), some y2, u7, u8]) (H := H7) (ed_var (i := 6) rfl dd7) (ed_int (i := 0)) (atI0 (PyData.str rw0) rds)
      refine g_lst (K := K) (b := L :: b) (ds := [.str (twoS j), .str rw0]) kn7 (ea_cons two (ea_cons i0 ea_nil)) (sz2 (by decide)) fun Wd wvs H8 hWd x8 hW dW => ?_
      have eW : wvs = [.str (twoS j), .str rw0] := dps_strs (xs := [twoS j, rw0]) dW
      subst eW
      have kn8 := kn7.up x8
      have hWb : Wd ∉ L :: b := kn7.new hWd
      have hWL : Wd ≠ L := fun z => hWb (by rw [z]; exact hLb)
      -- the things of the row; the words' list is hidden, too
      have hH0W : H Wd = none := by
        cases z : H Wd with
        | none => rfl
        | some o => rw [(x6.trans xT) _ _ z] at hWd; cases hWd
      have kn8' : Kn (Wd :: L :: b) H8 := fun z hz => by
        rcases List.mem_cons.mp hz with rfl | hz
        · rw [hW]; intro q; cases q
        · exact kn8 z hz
      have hid8 : Ex (hid (L :: b) H6) (hid (Wd :: L :: b) H8) := (hid_ex xT).trans ((hide_ex hWd).trans (hid_ex x8))
      have hid78 : Ex (hid (L :: b) H7) (hid (Wd :: L :: b) H8) := (hide_ex hWd).trans (hid_ex x8)
      have dd8 : Dq K (Wd :: L :: b) H8 y2 (.tuple (.str rw0 :: rds)) := dp_ex hid78 _ _ dd7
      have sl := (ed_slT (K := K) (b := Wd :: L :: b) (σ := [some (.ref pa), some (.ref L), some (.str p.name), some v2, some (.ref pr), some (.int (j : Nat)), some y2, some (.ref Wd), u8]) (H := H8) kn8' (ed_var (i := 6) rfl dd8) (eo_some (K := K) (b := Wd :: L :: b) (ed_int (i := 1))) eo_none).to (e := .tuple rds) (by
        show PyData.tuple (cutD (PyData.str rw0 :: rds) (some ((1 : Nat) : Int)) none) = _
        rw [cut_from]
        rfl)
      refine sl H8 (Ex.refl H8) _ fun vt H9 x9 hvt => ?_
      have kn9 := kn8'.up x9
      have x69 := (xT.trans x8).trans x9
      have hid9 : Ex (hid (L :: b) H6) (hid (Wd :: L :: b) H9) := hid8.trans (hid_ex x9)
      cases hvt with
      | @tup pt tvs _ b1 bN b2 =>
      have ltv : tvs.length = rds.length := dps_len b2
      have flat : ∀ (k : Nat) (d : PyData), rds[k]? = some d → flatP d = true := fun k d hd => by
        rcases krd k d hd with ⟨x, rfl, _⟩ | ⟨i, rfl, _⟩ <;> rfl
      have vflat : ∀ (k : Nat) (d : PyData), rds[k]? = some d → tvs[k]? = some (vOf d) := fun k d hd => by
        obtain ⟨v, h1, h2⟩ := dps_get b2 hd
        rw [h1, dp_flat h2 (flat k d hd)]
      have hWm : Wd ∈ Wd :: L :: b := List.mem_cons_self
      have hLm : L ∈ Wd :: L :: b := List.mem_cons_of_mem _ hLb
      refine ⟨pt, rfl, ⟨tvs, ex_t hid_le b1⟩, ?_⟩
      refine for_it (walk_tup (K := K) (xs := tvs)) (fun k σ' H' => ∃ (u8 : Option V), σ' = [some (.ref pa), some (.ref L), some (.str p.name), some v2, some (.ref pr), some (.int (j : Nat)), some y2, some (.ref Wd), u8] ∧ Ex H H' ∧ Kn (Wd :: L :: b) H' ∧ Ex (hid (L :: b) H6) (hid (Wd :: L :: b) H') ∧ SqT K (hid (Wd :: L :: b) H') pt tvs ∧ H' L = some (.lst ((linesW numT (ps.take i) ++ (headL p :: rowsLW numT 0 (p.rows.take j))).map V.str)) ∧ H' Wd = some (.lst ((twoS j :: rw0 :: rest.take k).map V.str)))
        ⟨u8, rfl, x6.trans x69, kn9, hid9, b1, x69 _ _ e6, x9 _ _ hW⟩ (fun k σ' H' _ ⟨_, _, _, _, _, h, _⟩ => ex_t hid_le h) ?_ ?_
      · intro k xv σ' HA HA' hk ⟨u8, es, xA, knA, hidA, sqA, eLA, eWA⟩ ⟨eH, hxv⟩
        subst es eH
        rw [ltv] at hk
        obtain ⟨d, hd⟩ : ∃ d, rds[k]? = some d := ⟨_, List.getElem?_eq_getElem hk⟩
        have exv : xv = vOf d := by
          rw [vflat k d hd] at hxv
          exact (Option.some.inj hxv).symm
        subst exv
        obtain ⟨z, hz, ez⟩ : ∃ z, rest[k]? = some z ∧ ED K (Wd :: L :: b) (tIf (tB (tCB (rIsi K) (tCons (tVar 8) (tCons (tC (.ty "str")) tNil)))) (tVar 8) (tCall (spP K FgPre fgF) [] E0 (tCons (tVar 8) tNil))) [some (.ref pa), some (.ref L), some (.str p.name), some v2, some (.ref pr), some (.int (j : Nat)), some y2, some (.ref Wd), some (vOf d)] HA' (.str z) := by
          have ti := et_b (ed_isi (K := K) (b := Wd :: L :: b) (σ := [some (.ref pa), some (.ref L), some (.str p.name), some v2, some (.ref pr), some (.int (j : Nat)), some y2, some (.ref Wd), some (vOf d)]) (H := HA') (T := "str") (.inr (.inr (.inl rfl))) (ed_var (i := 8) rfl (flat_dp (flat k d hd))))
          rcases krd k d hd with ⟨x, rfl, hx⟩ | ⟨i', rfl, hi', hx⟩
          · exact ⟨x, hx, ed_if (e := .none) ti (fun _ => ed_var (i := 8) rfl (.str x)) fun h => nomatch h⟩
          · exact ⟨numT i', hx, ed_if (d := .none) ti (fun h => nomatch h) fun _ => ed_call (pre := FgPre) (f := fgF) knA (ea_cons (ed_var (i := 8) (d := .int i') rfl (.int i')) ea_nil) ⟨_, rfl, hi'⟩⟩
        have lrk : (rest.take k).length ≤ 1 := by rw [List.length_take]; omega
        refine g_app (vs := (twoS j :: rw0 :: rest.take k).map V.str) (j := 7) rfl eWA (by rw [List.length_map, List.length_cons, List.length_cons]; omega) ez fun y HB xB hy => ?_
        have ey := dq_str hy
        subst ey
        have hh : hid (Wd :: L :: b) (upd HB Wd (.lst ((twoS j :: rw0 :: rest.take k).map V.str ++ [.str z]))) = hid (Wd :: L :: b) HB := hid_upd hWm
        refine ⟨_, rfl, Ex.mut (xA.trans xB) hH0W, ?_, ?_, ?_, ?_, ?_⟩
        · intro c hc
          by_cases e : c = Wd
          · rw [e, upd_same]; intro q; cases q
          · rw [upd_ne e]; exact knA.up xB c hc
        · rw [hh]; exact hidA.trans (hid_ex xB)
        · rw [hh]; exact ex_t (hid_ex xB) sqA
        · rw [upd_ne (Ne.symm hWL)]; exact xB _ _ eLA
        · rw [upd_same, List.take_add_one, hz]
          simp only [List.map_append, List.map_cons, List.map_nil, List.cons_append]
          rfl
      · intro σ' HA ⟨u8, es, xA, knA, hidA, sqA, eLA, eWA⟩
        subst es
        dsimp only
        rw [ltv, lre, List.take_of_length_le (Nat.le_refl _), ← ews] at eWA
        have knL : Kn (L :: b) HA := fun c hc => knA c (List.mem_cons_of_mem _ hc)
        have dWd : Dq K (L :: b) HA (.ref Wd) (.list ((twoS j :: r.wsW numT).map .str)) := .lst (.inl (.inl (by rw [hid_ne hWb]; exact eWA))) (strs_dps _)
        rw [← ews] at wb
        have hd := ed_joinB (K := K) (b := L :: b) (σ := [some (.ref pa), some (.ref L), some (.str p.name), some v2, some (.ref pr), some (.int (j : Nat)), some y2, some (.ref Wd), u8]) (H := HA) (z := bl1) (ys := twoS j :: r.wsW numT) (ed_str (x := " ")) (ed_var (i := 7) rfl dWd) (by omega)
        have hlj : (linesW numT (ps.take i) ++ (headL p :: rowsLW numT 0 (p.rows.take j))).length ≤ 1000 := by
          rw [List.length_append, List.length_cons, rows_count, List.length_take]
          omega
        refine g_app (vs := (linesW numT (ps.take i) ++ (headL p :: rowsLW numT 0 (p.rows.take j))).map V.str) (j := 1) rfl eLA (by rw [List.length_map]; omega) hd fun y HB xB hy => ?_
        have ey := dq_str hy
        subst ey
        have hhB : hid (L :: b) (upd HB L (.lst ((linesW numT (ps.take i) ++ (headL p :: rowsLW numT 0 (p.rows.take j))).map V.str ++ [.str (Txt.join bl1 (twoS j :: r.wsW numT))]))) = hid (L :: b) HB := hid_upd hLb
        have hidB : Ex (hid (L :: b) H6) (hid (L :: b) HB) := (hidA.trans show_ex).trans (hid_ex xB)
        refine ⟨_, _, _, _, rfl, Ex.mut (xA.trans xB) hL, fun c hc => ?_, ?_, ?_, ?_, ?_, ?_⟩
        · by_cases e : c = L
          · rw [e, upd_same]; intro q; cases q
          · rw [upd_ne e]; exact knL.up xB c hc
        · rw [hhB]; exact dps_ex hidB _ _ c1
        · rw [hhB]; exact ex_t hidB c2
        · rw [hhB]; exact ex_t hidB c3
        · rw [hhB]; exact dps_ex hidB _ _ c4
        · rw [upd_same, List.take_add_one, hr']
          have e9 : rowsLW numT 0 (p.rows.take j ++ (some r).toList) = rowsLW numT 0 (p.rows.take j) ++ [rowLW numT j r] := by
            show rowsLW numT 0 (p.rows.take j ++ [r]) = _
            rw [rowsLW_app, List.length_take, Nat.min_eq_left (Nat.le_of_lt hj), Nat.zero_add]
          rw [e9]
          simp only [List.map_append, List.map_cons, List.map_nil, List.append_assoc, List.cons_append]
          rfl
    · intro σ' H6 ⟨u5, u6, u7, u8, es, x6, kn6, c1, c2, c3, c4, e6⟩
      subst es
      rw [lrs, List.take_of_length_le (Nat.le_refl _)] at e6
      refine ⟨_, _, _, _, _, _, _, rfl, x6, kn6, c1, c2, ?_⟩
      rw [e6, List.take_add_one, hp]
      unfold linesW
      rw [List.flatMap_append]
      show _ = some (HO.lst (((ps.take i).flatMap (ptLW numT) ++ [p].flatMap (ptLW numT)).map V.str))
      rw [List.flatMap_singleton]
      rfl
  · intro σ' H3 ⟨u2, u3, u4, u5, u6, u7, u8, es, x3, kn3, k1, k2, e3⟩
    subst es
    rw [lxs, List.take_of_length_le (Nat.le_refl _)] at e3
    dsimp only
    refine ⟨rfl, .ref L, rfl, ln1, L, linesW numT ps, rfl, rfl, .inl (.inl (.inl e3)), n3, q _ H3 x3 (.str _)⟩
end
end Wr

set_option Elab.async false
set_option linter.all false
set_option maxRecDepth 100000
set_option maxHeartbeats 4000000
namespace Wr
open PySem PySem.Spec PyProof.Rows L2 Evl TL
theorem str_shown {x : Str} (h : PyData.strOk x = true) : (reprText x).length ≤ 10 * x.length + 2 := by
  refine StrLaws.reprText_len x fun c hc => ?_
  have h' : x.cps.all (· < 0x110000) = true := h
  obtain ⟨i, hi, e⟩ := List.mem_iff_getElem.mp hc
  have h2 := Array.all_eq_true.mp h' i (by simpa using hi)
  have e' : x.cps[i]'(by simpa using hi) = c := by simpa using e
  rw [e'] at h2
  have : (c : Nat) < 0x110000 := of_decide_eq_true h2
  have h3 : (0x110000 : Nat) < 16 ^ 8 := by decide
  omega
theorem all_shown {ds : List PyData} (h : ∀ d ∈ ds, d.shown.length ≤ szD d) : ((PyData.shownAll ds).map (·.length)).sum + 2 * (PyData.shownAll ds).length ≤ szAll ds := by
  induction ds with
  | nil => simp only [PyData.shownAll, szAll, List.map_nil, List.sum_nil, List.length_nil]; omega
  | cons d r ih =>
    have h1 := h d List.mem_cons_self
    have h2 := ih fun e he => h e (List.mem_cons_of_mem _ he)
    simp only [PyData.shownAll, szAll, List.map_cons, List.sum_cons, List.length_cons]
    omega
theorem shown_sz : ∀ (n : Nat) (d : PyData), okD n d = true → d.shown.length ≤ szD d
  | _, .none, _ => by simp only [PyData.shown, szD]; decide
  | _, .bool b, _ => by
    simp only [PyData.shown, szD]
    cases b <;> decide
  | n, .int i, h => by
    have h' : decide (i.natAbs < 10 ^ 45) = true := by cases n <;> exact h
    simp only [PyData.shown, szD]
    exact int_text_len_1921 (log_small (of_decide_eq_true h'))
  | n, .str x, h => by
    have h' : (PyData.strOk x && decide (x.length ≤ 1000)) = true := by cases n <;> exact h
    simp only [PyData.shown, szD]
    exact str_shown (Bool.and_eq_true_iff.mp h').1
  | 0, .list ds, h => by cases h
  | 0, .tuple ds, h => by cases h
  | 0, .dict _, h => by cases h
  | _ + 1, .dict _, h => by cases h
  | n + 1, .list ds, h => by
    have q := all_shown fun d hd => shown_sz n d (ok_itemsL h d hd)
    have q2 := listText_len_le (PyData.shownAll ds)
    simp only [PyData.shown, szD]
    omega
  | n + 1, .tuple ds, h => by
    have q := all_shown fun d hd => shown_sz n d (ok_items h d hd)
    have q2 := tupleText_len_le (PyData.shownAll ds)
    simp only [PyData.shown, szD]
    omega
def rRepr (K : PySem.W.Frag) : List V → Hp → VK → Prop := fun xs H Q => ∃ x d, xs = [x] ∧ Dp K H x d ∧ okD 30 d = true ∧ szD d ≤ 16000000 ∧ Q (.str d.shown) H
theorem call_reprD {X : Cx} (hg : X.A.guards = some []) (hu : X.A.units + 64 < cLine) : CallR X (.builtin "repr") (rRepr X.K) := by
  intro pins s σ H xs us Q I r ⟨x, d, e, hd, ho, hz, q⟩
  subst e
  obtain ⟨u, rfl, rx⟩ := vals1 r
  obtain ⟨f1, f2, f3⟩ := ok_facts 30 d ho
  have hsl : sizeLine = 16777216 := sizeLine_eq
  have hsz : d.shown.length ≤ sizeLine := by
    have := shown_sz 30 d ho
    omega
  obtain ⟨as, rd⟩ := Dp.reads I d x u hd rx
  cases hd with
  | non =>
    cases rx
    simp only [PyData.shown] at q
    exact PySem.P.repr_of_none ⟨.str _, H, I.tok _, ⟨_, rfl⟩, q⟩
  | bl c =>
    cases rx
    simp only [PyData.shown] at q
    refine PySem.P.repr_of_bool ⟨.str _, H, I.tok _, ⟨_, rfl⟩, ?_⟩
    cases c <;> exact q
  | int i =>
    obtain ⟨t, rfl⟩ := rx
    simp only [PyData.shown] at q
    exact PySem.P.repr_of_int (by simpa [PyData.showable] using f3) ⟨.str _, H, I.tok _, ⟨_, rfl⟩, q⟩
  | str y =>
    obtain ⟨t, rfl⟩ := rx
    simp only [PyData.shown] at q hsz
    exact PySem.P.repr_of_str ⟨.str _, H, I.tok _, ⟨_, rfl⟩, q⟩ hsz
  | lst h1 h2 =>
    cases rx
    exact repr_of_reads' rd f3 (PyData.noDict_hsm (PyData.hasDict_of_canLay _ f1)) hg (by omega) (fun _ _ e => e) (fun h' t tk kp => ⟨.str _, H, I.kept (t' := tk) kp, ⟨_, rfl⟩, q⟩) hsz
  | tup h1 h2 =>
    cases rx
    exact repr_of_reads' rd f3 (PyData.noDict_hsm (PyData.hasDict_of_canLay _ f1)) hg (by omega) (fun _ _ e => e) (fun h' t tk kp => ⟨.str _, H, I.kept (t' := tk) kp, ⟨_, rfl⟩, q⟩) hsz
def repS (x : Str) (n : Int) : Str := ⟨(List.replicate n.toNat x.cps.toList).flatten.toArray⟩
def rMulS : R2 := fun x y H Q => ∃ z n, x = .str z ∧ y = .int n ∧ 0 ≤ n ∧ n ≤ 1000 ∧ z.length ≤ 1000 ∧ Q (.str (repS z n)) H
theorem rep_fold : ∀ (n : Nat) (x : Array Nat) (acc : Array Nat), (List.replicate n x).foldl (· ++ ·) acc = acc ++ (List.replicate n x.toList).flatten.toArray
  | 0, x, acc => by simp
  | n + 1, x, acc => by
    rw [List.replicate_succ, List.replicate_succ, List.foldl_cons, rep_fold n x]
    obtain ⟨l⟩ := x
    simp
theorem rep_len (z : Str) (n : Int) : (repS z n).length = n.toNat * z.length := by
  show (List.replicate n.toNat z.cps.toList).flatten.toArray.size = n.toNat * z.cps.size
  simp
theorem op_mulS {X : Cx} : OpR X (binaryOp .Mult) rMulS := by
  intro pins s σ H x y v u Q I rx ry ⟨z, n, e1, e2, h0, h1, hz, q⟩
  subst e1 e2
  obtain ⟨t, rfl⟩ := rx
  obtain ⟨t2, rfl⟩ := ry
  have hs : sizeLine = 16777216 := sizeLine_eq
  refine PySem.P.mul_str (by rw [decide_eq_false (by omega), decide_eq_false (by omega)]; rfl) (fun h _ => ?_) (fun _ _ => ?_) ?_
  · have : (z.length : Int) ≤ 1000 := by omega
    have h2 : (9223372036854775 : Int) ≤ (2 ^ 63 - 1) / n := by
      rw [Int.le_ediv_iff_mul_le (by omega)]
      have : 9223372036854775 * n ≤ 9223372036854775 * 1000 := Int.mul_le_mul_of_nonneg_left h1 (by decide)
      omega
    omega
  · have : z.length * n.toNat ≤ 1000 * 1000 := Nat.mul_le_mul hz (by omega)
    unfold Builtin.Str.tooLong
    exact decide_eq_false (by omega)
  · by_cases hn : n < 1
    · rw [if_pos hn]
      have e0 : n = 0 := by omega
      subst e0
      exact ⟨by decide, .str (repS z 0), H, I.tok _, ⟨_, rfl⟩, q⟩
    · rw [if_neg hn]
      by_cases hc : (n == 1 || z.length == 0) = true
      · rw [if_pos hc]
        have e : repS z n = z := by
          rcases (show n = 1 ∨ z.length = 0 by simpa using hc) with rfl | hl
          · show (⟨(List.replicate 1 z.cps.toList).flatten.toArray⟩ : Str) = z
            simp
          · have h2 : z.cps.toList = [] := by
              have : z.cps.size = 0 := hl
              simpa using this
            unfold repS
            rw [h2]
            have h3 : (List.replicate n.toNat ([] : List Nat)).flatten = [] := by simp
            rw [h3]
            obtain ⟨c⟩ := z
            simp at h2
            subst h2
            rfl
        rw [e] at q
        exact ⟨.str z, H, I, ⟨_, rfl⟩, q⟩
      · rw [if_neg hc]
        have e : (⟨(List.replicate n.toNat z.cps).foldl (· ++ ·) #[]⟩ : Str) = repS z n := by
          unfold repS
          rw [rep_fold]
          simp
        rw [e]
        refine ⟨?_, .str (repS z n), H, I.tok _, ⟨_, rfl⟩, q⟩
        rw [rep_len]
        have : n.toNat * z.length ≤ 1000 * 1000 := Nat.mul_le_mul (by omega) hz
        omega
section
variable {K : PySem.W.Frag} {b : List Addr} {σ : L2.St} {H H' : Hp} {ta tb te : TE}
theorem ed_mulS {z : Str} {n : Int} (ha : ED K b ta σ H (.str z)) (hb : ED K b tb σ H (.int n)) (h0 : 0 ≤ n) (h1 : n ≤ 1000) (hz : z.length ≤ 1000) : ED K b (tOp rMulS ta tb) σ H (.str (repS z n)) :=
  ed_op ha hb fun H1 x y Q _ hx hy q => ⟨z, n, dq_str hx, dq_int hy, h0, h1, hz, q _ H1 (Ex.refl H1) (.str _)⟩
end

/-- int(text) -/
def rIntS : List V → Hp → VK → Prop := fun xs H Q => ∃ a n, xs = [.str a] ∧ PySem.intText? a = some n ∧ a.length ≤ 640 ∧ Q (.int n) H
theorem call_intS {X : Cx} : CallR X (.type "int") rIntS := call_int_str
theorem strOk_tl {x : Str} (h : PyData.strOk x = true) : ∀ c ∈ tl x, c < 0x110000 := fun c hc => by
  have h' : x.cps.all (· < 0x110000) = true := h
  rw [Array.all_eq_true'] at h'
  have hc' : c ∈ x.cps := by
    have : c ∈ x.cps.toList := hc
    simpa using this
  exact of_decide_eq_true (h' c hc')
theorem strOk_join {y : Str} {ws : List Str} (hy : PyData.strOk y = true) (h : ∀ w ∈ ws, PyData.strOk w = true) : PyData.strOk (Txt.join y ws) = true := by
  refine strOk_of fun c hc => ?_
  rw [join_eq, tl_join] at hc
  rcases mem_joinL hc with hc | ⟨p, hp, hc⟩
  · exact strOk_tl hy c hc
  · obtain ⟨w, hw, rfl⟩ := List.mem_map.mp hp
    exact strOk_tl (h w hw) c hc
theorem show_strOk {f : Int → Str} (F : WrLen f) {ps : List Pt} (G : GoodP ps) : PyData.strOk (showW f ps) = true := by
  refine strOk_join (by decide +kernel) (lines_all F (C := fun l => PyData.strOk l = true) (fun n r h hn => ?_) (fun p h => ?_) G.ok)
  · exact strOk_join (by decide +kernel) fun w hw => ((row_ws F h hn).2 w hw).2
  · exact strOk_join (by decide +kernel) fun w hw => ((head_ws h).2 w hw).2
section
variable {K : PySem.W.Frag} {b : List Addr} {σ : L2.St} {H H' : Hp} {ta tb te : TE} {t : TA} {d : PyData} {ds : List PyData} {E : XK}
theorem ed_repr (ha : ED K b ta σ H d) (ho : okD 30 d = true) (hz : szD d ≤ 16000000) : ED K b (tCB (rRepr K) (tCons ta tNil)) σ H (.str d.shown) := fun H1 x1 Q q =>
  ha H1 x1 _ fun v H2 x2 hv => ⟨v, d, rfl, hv.dp, ho, hz, q _ H2 x2 (.str _)⟩
theorem ed_sh {ps : List Pt} (kn : Kn b H) (ha : EA K b t σ H [prD ps]) (G : GoodP ps) : ED K b (tCall (spSh K) [] E t) σ H (.str (showW numT ps)) := fun H1 x1 Q q =>
  ha H1 x1 _ fun vs H2 x2 hvs => by
    obtain ⟨v, d, rfl, ed, hv⟩ := one_of hvs rfl
    cases ed
    exact ⟨b, v, ps, rfl, kn.up (x1.trans x2), hv, G, fun u H3 x3 hu => q u H3 (x2.trans x3) hu⟩
theorem ed_rd {x : Str} {st : List Pt} (kn : Kn b H) (ha : EA K b t σ H [.str x]) (R : RdOk x st) : ED K b (tCall (spRd K) [] E t) σ H (prD st) := fun H1 x1 Q q =>
  ha H1 x1 _ fun vs H2 x2 hvs => by
    obtain ⟨v, d, rfl, ed, hv⟩ := one_of hvs rfl
    cases ed
    exact ⟨b, v, x, st, rfl, kn.up (x1.trans x2), hv, R, fun u H3 x3 hu => q u H3 (x2.trans x3) hu⟩
theorem ed_intS {a : Str} {n : Int} (ha : ED K b ta σ H (.str a)) (h : PySem.intText? a = some n) (hl : a.length ≤ 640) : ED K b (tCB rIntS (tCons ta tNil)) σ H (.int n) := fun H1 x1 Q q =>
  ha H1 x1 _ fun v H2 x2 hv => ⟨a, n, by rw [dq_str hv], h, hl, q _ H2 x2 (.int _)⟩
/-- a comprehension with one name, no test, items of any data -/
theorem lc_data {J : It} {n : Nat} {G : Hp → Prop} {xs : List V} {H2 : Hp} {k : Nat} {g : Nat → PyData} (W : Walk J n G (YAt xs)) (hn : n = xs.length) (hl : n < sizeLine) (kn : Kn b H2) (hG : ∀ H3, Ex H2 H3 → G H3)
    (he : ∀ (D : Addr) (i : Nat) (x : V) (H3 : Hp), xs[i]? = some x → H2 D = none → Ex H2 H3 → Kn (D :: b) H3 → ED K (D :: b) te ((wipe σ [k]).set k (some x)) H3 (g i))
    {Q : VK} (q : ∀ v H3, Ex H2 H3 → Dq K b H3 v (.list ((List.range n).map g)) → Q v H3) (D : Addr) (hD : H2 D = none) :
    ∃ W : Nat → Nat → Hp → Prop, (∃ m, W 0 m (upd H2 D (.lst []))) ∧ ∀ i m H, W i m H →
      (J.stop i H ∧ Q (.ref D) H) ∨ (J.go i H ∧ ∃ Nx : Hp → Prop, (∀ H', Nx H' → ∃ m', m' < m ∧ W (i + 1) m' H') ∧ ∀ x H', J.yld i H x H' → gName k x (wipe σ [k]) H' fun σ2 H2 => wipe σ2 [k] = wipe σ [k] ∧ tYes σ2 H2 fun b H3 =>
        if b = true then te σ2 H3 fun y H4 => ∃ acc, H4 D = some (.lst acc) ∧ acc.length < sizeLine ∧ Nx (upd H4 D (.lst (acc ++ [y]))) else Nx H3) := by
  refine lc_it W (fun i H3 => Ex H2 H3 ∧ Kn (D :: b) H3 ∧ ∃ us, H3 D = some (.lst us) ∧ DqAll K (D :: b) H3 us ((List.range i).map g)) ⟨Ex.new hD, fun z hz => ?_, [], upd_same, .nil⟩ (fun i H3 _ h => hG H3 h.1) ?_ ?_
  · rcases List.mem_cons.mp hz with rfl | hz
    · rw [upd_same]; intro q; cases q
    · exact kn.up (Ex.new hD) z hz
  · intro i x H3 H3' hi ⟨x3, k3, us, e1, e2⟩ ⟨eH, hx⟩
    subst eH
    refine ⟨wipe_set1, ?_⟩
    refine et_yes (H := H3') _ (Ex.refl _) _ fun H4 x4 => ?_
    rw [if_pos rfl]
    refine he D i x H4 hx hD (x3.trans x4) (k3.up x4) H4 (Ex.refl H4) _ fun y H5 x5 hy => ?_
    have lus := dps_len e2
    rw [List.length_map, List.length_range] at lus
    refine ⟨us, x5 _ _ (x4 _ _ e1), by omega, Ex.mut (x3.trans (x4.trans x5)) hD, fun z hz => ?_, us ++ [y], upd_same, ?_⟩
    · by_cases e : z = D
      · rw [e, upd_same]; intro q; cases q
      · rw [upd_ne e]; exact (k3.up x4).up x5 z hz
    · rw [List.range_succ, List.map_append]
      exact dps_ex put_ex _ _ (dps_app (DqAll.up e2 (x4.trans x5)) (.cons hy .nil))
  · intro H3 ⟨x3, k3, us, e1, e2⟩
    exact q _ H3 x3 (.lst (.inl (.inl (by rw [hid_ne (kn.new hD)]; exact e1))) (dps_ex show_ex _ _ e2))
theorem ed_lcRT {k N : Nat} {g : Nat → PyData} (kn : Kn b H) (ha : ED K b ta σ H (.int (N : Nat))) (hN : N ≤ 1000)
    (he : ∀ (D : Addr) (i : Nat) (H0 H3 : Hp), i < N → Ex H H0 → H0 D = none → Ex H0 H3 → Kn (D :: b) H3 → ED K (D :: b) te ((wipe σ [k]).set k (some (.int (i : Nat)))) H3 (g i)) :
    ED K b (tLc (iRng1 (tCons ta tNil)) (gName k) tYes te [k]) σ H (.list ((List.range N).map g)) := fun H1 x1 Q q =>
  ha H1 x1 _ fun x H2 x2 hx => by
    have e := dq_int hx
    subst e
    have hsl : sizeLine = 16777216 := sizeLine_eq
    have wk : Walk (Itr 0 N) N (fun _ => True) (YAt ((List.range N).map fun i => V.int ((i : Nat) : Int))) := walk_range.mono (fun _ _ => trivial) fun i H x H' hi _ ⟨e, h⟩ => ⟨e, by
      rw [List.getElem?_map, List.getElem?_range hi, h]
      show some (V.int ((i : Nat) : Int)) = some (V.int (0 + (i : Int)))
      rw [Int.zero_add]⟩
    refine ⟨(N : Nat), rfl, by omega, by omega, lc_data (K := K) (g := g) wk (by rw [List.length_map, List.length_range]) (by omega) (kn.up (x1.trans x2)) (fun _ _ => trivial) (fun D i x H3 hx hD x3 k3 => ?_) fun v H3 x3 hv => q v H3 (x2.trans x3) hv⟩
    have hi : i < N := by
      have := (List.getElem?_eq_some_iff.mp hx).1
      rw [List.length_map, List.length_range] at this
      exact this
    rw [List.getElem?_map, List.getElem?_range hi] at hx
    have ex := (Option.some.inj hx).symm
    subst ex
    exact he D i H2 H3 hi (x1.trans x2) hD x3 k3
theorem ed_lcLT {k : Nat} {f : PyData → PyData} (kn : Kn b H) (ha : ED K b ta σ H (.list ds)) (hl : ds.length ≤ 1000) (hf : ∀ d ∈ ds, flatP d = true)
    (he : ∀ (D : Addr) (d : PyData) (H0 H3 : Hp), d ∈ ds → Ex H H0 → H0 D = none → Ex H0 H3 → Kn (D :: b) H3 → ED K (D :: b) te ((wipe σ [k]).set k (some (vOf d))) H3 (f d)) :
    ED K b (tLc (iList K ta) (gName k) tYes te [k]) σ H (.list (ds.map f)) := fun H1 x1 Q q =>
  ha H1 x1 _ fun x H2 x2 hx => by
    cases hx with
    | @lst a xs _ h1 h2 =>
    have hsl : sizeLine = 16777216 := sizeLine_eq
    have hlen := dps_len h2
    refine ⟨a, rfl, ⟨xs, ex_l hid_le h1⟩, lc_data (K := K) (g := fun i => f (ds.getD i .none)) walk_list rfl (by omega) (kn.up (x1.trans x2)) (fun H3 x3 => ex_l x3 (ex_l hid_le h1)) (fun D i x H3 hx hD x3 k3 => ?_) fun v H3 x3 hv => ?_⟩
    · obtain ⟨d, g1, g2⟩ := dps_at h2 hx
      have hd := List.mem_of_getElem? g1
      have ex := dp_flat g2 (hf d hd)
      subst ex
      simp only [List.getD_eq_getElem?_getD, g1, Option.getD_some]
      exact he D d H2 H3 hd (x1.trans x2) hD x3 k3
    · rw [hlen] at hv
      rw [range_map ds f _ fun i d hd => by simp only [List.getD_eq_getElem?_getD, hd, Option.getD_some]] at hv
      exact q v H3 (x2.trans x3) hv
end
end Wr

set_option Elab.async false
set_option linter.all false
set_option maxRecDepth 100000
set_option maxHeartbeats 4000000
namespace Wr
open PySem PySem.Spec PyProof.Rows L2 Evl TL
theorem g_forL {K : PySem.W.Frag} {b : List Addr} {ta : TA} {σ : L2.St} {H : Hp} {ds : List PyData} {g : TG} {tb ts : TS} {D : Ends} (h : EA K b ta σ H ds) (hl : ds.length ≤ sizeLine)
    (k : ∀ pT vs H'', Ex H H'' → H'' pT = some (.lst vs) → DqAll K b H'' vs ds → tFor (fun _ H R => R (Itl K pT) H) g tb { D with nx := ts D } σ H'') : tSeq (tFor (iList K (tLst ta)) g tb) ts D σ H :=
  h H (Ex.refl H) _ fun vs H' x hvs => ⟨by rw [dps_len hvs]; exact hl, fun pT hpT => ⟨pT, rfl, ⟨vs, .inl (.inl upd_same)⟩, k pT vs _ (x.trans (Ex.new hpT)) upd_same (DqAll.up hvs (Ex.new hpT))⟩⟩
theorem ed_tupOf {K : PySem.W.Frag} {b : List Addr} {ta : TE} {σ : L2.St} {H : Hp} {ds : List PyData} (kn : Kn b H) (ha : ED K b ta σ H (.list ds)) : ED K b (tCB (rTupOf K) (tCons ta tNil)) σ H (.tuple ds) := fun H1 x1 Q q =>
  ha H1 x1 _ fun v H2 x2 hv => by
    cases hv with
    | lst g1 g2 => exact ⟨_, _, rfl, ex_l hid_le g1, fun l o hl ho => q _ _ (x2.trans (Ex.new hl)) (dq_newT (kn.up (x1.trans x2)) hl ho g2)⟩
theorem eqv_two (x : Str) : PyData.eqv (.list [.str x, .str x]) (.list [.str x, .str x]) = true := by
  simp only [PyData.eqv, PyData.eqvAll]
  simp
end Wr

set_option Elab.async false
set_option linter.all false
set_option maxRecDepth 100000
set_option maxHeartbeats 4000000
/-! ### thing[::-1] of a tuple -/
namespace HT
open PySem PySem.Spec PyProof.Rows
section
variable {prog : Program} {w : World} {A : Around} {E : Value → Shared → Prop} {s : Shared}
theorem sliceApplied_rev {sl : Addr} {vl vu vs : Value} {n : Nat} {Q : Int × Int × Nat → Shared → Prop} (hs : s.heap.IsSliceOf sl vl vu vs) (pl : IsPart vl none) (pu : IsPart vu none) (ps : IsPart vs (some (-1)))
    (h : Q (((n : Nat) : Int) - 1, -1, n) s) : wpAny (model prog w) A (Builtin.Slice.sliceApplied (.ref sl) (pure (n : Int))) Q E s := by
  obtain ⟨os, hos, hcs, hds⟩ := id hs
  unfold Builtin.Slice.sliceApplied Builtin.Slice.sliceFields
  refine wpAny_bind (wpAny_bind (wpAny_field hos hds (x := vl) rfl (wpAny_bind (wpAny_field hos hds (x := vu) rfl (wpAny_bind (wpAny_field hos hds (x := vs) rfl (wpAny_pure ?_)))))))
  refine wpAny_bind (slicePart_ ps ?_)
  show wpAny _ _ (if ((-1 : Int) == 0) = true then _ else _) _ _ s
  rw [if_neg (by decide)]
  refine wpAny_bind (slicePart_ pl (wpAny_bind (slicePart_ pu (wpAny_bind (wpAny_pure ?_)))))
  show wpAny _ _ (match Builtin.Slice.sliceAdjust none none (-1) (n : Int) with | (lo, hi) => pure (lo, (-1 : Int), Builtin.Slice.slicePlaces lo hi (-1))) _ _ s
  have e1 : Builtin.Slice.sliceAdjust none none (-1) (n : Int) = ((n : Int) - 1, -1) := by
    unfold Builtin.Slice.sliceAdjust
    simp
  have e2 : Builtin.Slice.slicePlaces ((n : Int) - 1) (-1) (-1) = n := by
    unfold Builtin.Slice.slicePlaces
    rw [if_neg (by decide)]
    by_cases h0 : n = 0
    · subst h0; decide
    · rw [if_pos (by omega)]
      have : ((n : Int) - 1 - -1 - 1) / (- -1) + 1 = (n : Int) := by
        rw [show (- -1 : Int) = 1 by decide, Int.ediv_one]
        omega
      rw [this]
      omega
  rw [e1]
  show wpAny _ _ (pure ((n : Int) - 1, (-1 : Int), Builtin.Slice.slicePlaces ((n : Int) - 1) (-1) (-1))) _ _ s
  rw [e2]
  exact wpAny_pure h
theorem pick_rev (xs : Array Value) : ((List.range xs.size).filterMap fun (m : Nat) => xs[(((xs.size : Nat) : Int) - 1 + (m : Int) * (-1)).toNat]?) = xs.toList.reverse := by
  have e : (fun (m : Nat) => xs[(((xs.size : Nat) : Int) - 1 + (m : Int) * (-1)).toNat]?) = (fun i => xs[i]?) ∘ fun m => xs.size - 1 - m := by
    funext m
    show xs[(((xs.size : Nat) : Int) - 1 + (m : Int) * (-1)).toNat]? = xs[xs.size - 1 - m]?
    congr 1
    omega
  rw [e, ← List.filterMap_map, PySem.W.krv_range, List.filterMap_reverse, PySem.W.krv_all]
theorem getItem_tuple_rev {t sl : Addr} {items : Array Value} {vl vu vs : Value} {Q : Value → Shared → Prop} (ht : IsTup s.heap t items) (hs : s.heap.IsSliceOf sl vl vu vs) (pl : IsPart vl none) (pu : IsPart vu none) (ps : IsPart vs (some (-1)))
    (h : Q (.ref s.heap.objs.size) { s with heap := s.heap.push { cls := .type "tuple", data := .seq items.toList.reverse.toArray } })
    (hsz : items.size ≤ sizeLine) : wpAny (model prog w) A (getItem (.ref t) (.ref sl)) Q E s := by
  have htake : sizeOk (.seq items.toList.reverse.toArray) := by
    show items.toList.reverse.toArray.size ≤ sizeLine
    rw [List.size_toArray, List.length_reverse, Array.length_toList]
    exact hsz
  obtain ⟨os, hos, hcs, hds⟩ := id hs
  have hTs : s.TypeIs (.ref sl) "slice" := ⟨os, hos, hcs⟩
  unfold getItem
  try with_reducible refine wpAny_holding ?_
  first | refine wpAny_bind (wpAny_pure ?_) | skip
  refine wpAny_bind (wpAny_sequenceKey ht.typeIs (by decide) ?_)
  refine wpAny_bind (wpAny_callSpecial?_slot (name := Str.ofString "__getitem__") ht.typeIs PyProof.Rows.slot_tuple_getitem
    (wpAny_call_entry PyProof.Rows.slot_tuple_getitem ht.typeIs entry_tuple_getitem ?_ (args_tuple_getitem _ _)))
  show wpAny _ _ (Builtin.Tuple.tupleItemsOf (.ref t) >>= _) _ _ s
  refine wpAny_bind (tupleItemsOf_ ht ?_)
  refine wpAny_bind (wpAny_typeOf hTs ?_)
  rw [if_pos (by decide)]
  refine wpAny_bind (sliceApplied_rev hs pl pu ps ?_)
  show wpAny _ _ (if ((((items.size : Nat) : Int) - 1) == 0 && (-1 : Int) == 1 && items.size == items.size) = true then _ else _) _ _ s
  rw [if_neg (by rw [show ((-1 : Int) == 1) = false by decide, Bool.and_false, Bool.false_and]; exact Bool.false_ne_true), pick_rev]
  first
    | exact wpAny_bind (m := Builtin.Tuple.tupleExact _) (wpAny_newObj_type (wpAny_pure ⟨_, rfl, wpAny_pure h⟩) htake)
    | exact wpAny_bind (m := Builtin.Tuple.tupleExact _) (wpAny_newObj_type (wpAny_bind (wpAny_pure (wpAny_pure ⟨_, rfl, wpAny_pure h⟩))) htake)
    | exact wpAny_bind (wpAny_bind (m := Builtin.Tuple.tupleExact _) (wpAny_newObj_type (wpAny_pure (wpAny_pure ⟨_, rfl, wpAny_pure h⟩)) htake))
    | exact wpAny_bind (wpAny_bind (m := Builtin.Tuple.tupleExact _) (wpAny_newObj_type (wpAny_pure ⟨_, rfl, wpAny_pure h⟩) htake))
end
end HT
namespace Wr
open PySem PySem.Spec PyProof.Rows L2 Evl TL
def tRevT (K : PySem.W.Frag) (te : TE) : TE := fun σ H Q => te σ H fun x H1 => ∃ a xs, x = .ref a ∧ SqT K H1 a xs ∧ ∀ p o, H1 p = none → o.dict = none → Q (.ref p) (upd H1 p (.frz o (.tup xs.reverse)))
theorem pe_revT {X : Cx} {e : Expr} {te : TE} {k : Nat} {p1 p2 p3 pos : Pos} (he : PE X e te) : PE X (.Subscript e (.Slice none none (some (.UnaryOp .USub (.Constant (.int 1) k p1) p2)) p3) pos) (tRevT X.K te) := by
  refine ⟨fun pins s σ H Q I h => ?_⟩
  refine Subscript_ (thn (he.run pins s σ H _ I h) fun v s1 ⟨x, H1, I1, r1, q1⟩ => ?_)
  obtain ⟨a, xs, ex, hx, q⟩ := q1
  subst ex
  cases r1
  have hst : PO X (some (.UnaryOp .USub (.Constant (.int 1) k p1) p2)) (tPart (tUn (rU fun i => .int (-i)) (tC (.int 1)))) := po_some (pe_un un_neg pe_int)
  refine wpAny_Slice (thn (po_none.run pins s1 σ H1 (fun o H2 => o = none ∧ H2 = H1) I1 ⟨rfl, rfl⟩) fun vl s2 ⟨l, H2, I2, pl, el, e2⟩ => ?_)
  subst el e2
  refine thn (po_none.run pins s2 σ H2 (fun o H3 => o = none ∧ H3 = H2) I2 ⟨rfl, rfl⟩) fun vu s3 ⟨u, H3, I3, pu, eu, e3⟩ => ?_
  subst eu e3
  refine thn (hst.run pins s3 σ H3 (fun o H4 => o = some (-1) ∧ H4 = H3) I3 ⟨1, rfl, -1, rfl, rfl, rfl⟩) fun vs s4 ⟨o, H4, I4, ps, eo, e4⟩ => ?_
  subst eo e4
  have I5 : Inv X pins σ H4 { s4 with heap := s4.heap.push { cls := .type "slice", data := .fields #[vl, vu, vs] } } := I4.kept (t' := s4.toks) fun b ob q => Heap.get?_push_of_some _ q
  obtain ⟨its, r, ht, hz⟩ := I5.tuple hx
  have hlen := r.length
  show wpAny (model X.prog X.w) X.A (subscriptTail e (.Slice none none (some (.UnaryOp .USub (.Constant (.int 1) k p1) p2)) p3) (.ref a) (.ref s4.heap.objs.size)) (EP X pins σ Q) X.xe { s4 with heap := s4.heap.push { cls := .type "slice", data := .fields #[vl, vu, vs] } }
  refine tail_any (ops := [.ref a, .ref s4.heap.objs.size]) ht.typeIs (PyProof.Rows.slot_tuple_getitem.lookup) ?_ (by with_unfolding_all rfl)
  refine HT.getItem_tuple_rev ht (Heap.IsSliceOf.new _ vl vu vs) pl pu ps ?_ (by rw [List.size_toArray]; omega)
  exact ⟨.ref _, _, I5.laid (t' := s4.toks) (fun b ob q => Heap.get?_push_of_some _ q) (Nat.le_refl _) (frz_new (xs := xs.reverse) (by rw [List.length_reverse]; exact hz) (by simpa using r.reverse)), rfl, q _ _ (I5.hok.fresh (Nat.le_refl _)) rfl⟩
theorem dps_rev {K : PySem.W.Frag} {H : Hp} : ∀ {vs : List V} {ds : List PyData}, DdAll K H vs ds → DdAll K H vs.reverse ds.reverse
  | _, [], h => by
    cases h
    exact .nil
  | _, d :: ds, h => by
    cases h with
    | cons h1 h2 =>
      rw [List.reverse_cons, List.reverse_cons]
      exact dps_app (dps_rev h2) (.cons h1 .nil)
theorem ed_revT {K : PySem.W.Frag} {b : List Addr} {σ : L2.St} {H : Hp} {ta : TE} {ds : List PyData} (kn : Kn b H) (ha : ED K b ta σ H (.tuple ds)) : ED K b (tRevT K ta) σ H (.tuple ds.reverse) := fun H1 x1 Q q =>
  ha H1 x1 _ fun v H2 x2 hv => by
    cases hv with
    | tup g1 gn g2 => exact ⟨_, _, rfl, ex_t hid_le g1, fun p o hp ho => q _ _ (x2.trans (Ex.new hp)) (dq_newT (kn.up (x1.trans x2)) hp ho (dps_rev g2))⟩
/-! ### promises put together; a local name that holds a def -/
theorem FnOk.or0 {P : Program} {w : World} {K : PySem.W.Frag} {mg : Str → Option Value} {base : Heap} {CX : CXT} {k : Nat} {f : Addr} {fd : FuncData} {ps : List Str} {sp sp' : Sp} (F : FnOk P w K mg base CX0 k f fd ps sp) (G : FnOk P w K mg base CX k f fd ps sp') :
    FnOk P w K mg base CX k f fd ps (fun vs H Q E => sp vs H Q E ∨ sp' vs H Q E) := by
  refine ⟨fun vs H Q E h => ?_, fun A outer s H args us vs Q E hr e0 hb r h => ?_⟩
  · rcases h with h | h
    · exact F.len vs H Q E h
    · exact G.len vs H Q E h
  · rcases h with h | h
    · refine codeAny_mono (F.run A outer s H args us vs Q E hr e0 hb r h) fun x s' hx => ?_
      cases x with
      | ok z =>
        cases z <;> exact hx
      | error e => exact hx.elim
    · exact G.run A outer s H args us vs Q E hr e0 hb r h
def tCallLS (i : Nat) (f : Addr) (sp : Sp) (E : L2.St → XK) (t : TA) : TE := fun σ H Q => σ[i]? = some (some (.ref f)) ∧ t σ H fun vs H1 => sp vs H1 Q (E σ)
theorem pe_callLS {X : Cx} {CX : CXT} {k i : Nat} {f : Addr} {fd : FuncData} {ps : List Str} {sp : Sp} {E : L2.St → XK} {x : Str} {p pos : Pos} {e : Expr} {es : List Expr} {t : TA}
    (F : FnOk X.prog X.w X.K X.mg X.base CX k f fd ps sp) (hr : Room k X.A) (hN : X.N[i]? = some x) (hv : Vis X.env.scope x) (hk : PySem.W.keepIn X.K (.ref f) = true) (hb : Binds X.K fd ps []) (hx : ∀ σ, PassesAt CX X σ (E σ)) (ha : PA X (e :: es) t)
    (hdb : (x == ("__debug__" : Str)) = false := by decide) (hcd : (x == ("__classdict__" : Str)) = false := by decide)
    (he : starEach (e :: es) X.env = (false, eval e X.env) :: starEach es X.env := by rfl) (hpl : (backTo pos (starEach es X.env)).any (·.1) = false := by rfl) : PE X (.Call (.Name x p) (e :: es) [] pos) (tCallLS i f sp E t) := by
  refine ⟨fun pins s σ H Q I h => ?_⟩
  obtain ⟨hs, ht⟩ := h
  refine wpAny_Call_Name_kw (thn ((pe_var (pos := p) hN hv hdb hcd).run pins s σ H (fun v H1 => v = .ref f ∧ H1 = H) I ⟨.ref f, hs, rfl, rfl⟩) fun u s1 ⟨v, H1, I1, r1, q1⟩ => ?_)
  obtain ⟨rfl, rfl⟩ := q1
  cases r1
  refine PySem.W.callWith_K (h₀ := X.base) I.ok.mod.kin hk (thn (ha.run pos pins s1 σ _ _ I1 ht) fun us s2 ⟨vs, H2, I2, r, q⟩ => ⟨I2.kIn, ?_⟩) he hpl
  exact run_fnS F hr hb (hx σ) I2 r q
/-! ### isinstance(e, (..)) of a caught error -/
def rIsET (K : PySem.W.Frag) (D a : Addr) : List V → Hp → VK → Prop := fun xs H Q => ∃ (t : Addr) (cs : List Addr) (b : Bool), xs = [.ref a, .ref t] ∧ SqT K H t (cs.map V.ref) ∧ PySem.W.kitAny K (.ref D) (cs.map Value.ref) = some b ∧ Q (.bl b) H
theorem vals_refs : ∀ {cs : List Addr} {us : List Value}, Vals (cs.map V.ref) us → us = cs.map Value.ref
  | [], _, h => by
    cases h
    rfl
  | c :: cs, _, h => by
    cases h with
    | cons h1 h2 =>
      cases h1
      rw [vals_refs h2]
      rfl
theorem call_isET {X : Cx} {a D : Addr} {oe : Obj} {pn : List (Addr × Obj)} (C : ExcC X.K D) (hz : Zc (.ref D) none oe) (hf : ∃ vs, oe.data = .fields vs) : CallR (X.suite a ((a, oe) :: pn)) (.builtin "isinstance") (rIsET X.K D a) := by
  intro pins s σ H xs us Q I r h
  obtain ⟨t, cs, b, rfl, ht, e, q⟩ := h
  cases r with
  | cons rx rr =>
    cases rr with
    | cons rt rr =>
      cases rr
      cases rx
      cases rt
      obtain ⟨hget, _⟩ := I.pin (a, oe) (List.mem_append.mpr (.inl List.mem_cons_self))
      obtain ⟨vs, hv⟩ := hf
      have J : PySem.W.InstAt s.heap a oe D none := by
        obtain ⟨oc, od, oda, osl⟩ := oe
        obtain ⟨h1, h2⟩ := hz
        dsimp only at h1 h2 hv
        subst h1 h2 hv
        exact ⟨hget, rfl, rfl, trivial⟩
      obtain ⟨its, r', ht', hz'⟩ := I.tuple ht
      have ei := vals_refs r'
      subst ei
      obtain ⟨⟨cls, dd, data, sl⟩, ho, hc, n, hd⟩ := id ht'
      simp only at hc hd
      subst hc hd
      exact PySem.W.kia_tup (PySem.W.handS_kitx_exc C.hg C.hk C.hs C.hd C.ha C.hn C.ht C.hm) I.kIn J ho e (fun z => nomatch z) fun tk => ⟨.bl b, H, I.kept (t' := tk) fun _ _ z => z, rfl, q⟩
/-! ### texts compared -/
def rLeS : R2 := fun x y H Q => ∃ i j, x = .str i ∧ y = .str j ∧ Q (.bl (!decide (j.cps.toList < i.cps.toList))) H
theorem op_leS {X : Cx} : OpR X (compareOp .LtE) rLeS := op_le_str
theorem ed_chainS {K : PySem.W.Frag} {b : List Addr} {σ : L2.St} {H : Hp} {ta tb tc : TE} {x y z : Str} (ha : ED K b ta σ H (.str x)) (hb : ED K b tb σ H (.str y)) (hc : ED K b tc σ H (.str z)) :
    ED K b (tChain rLeS rLeS ta tb tc) σ H (.bool (!decide (y.cps.toList < x.cps.toList) && !decide (z.cps.toList < y.cps.toList))) := fun H1 x1 Q q =>
  ha H1 x1 _ fun v H2 x2 hv => hb H2 (x1.trans x2) _ fun u H3 x3 hu => by
    have ev := dq_str hv
    have eu := dq_str hu
    subst ev eu
    refine ⟨x, y, rfl, rfl, _, rfl, ?_⟩
    cases hg : (!decide (y.cps.toList < x.cps.toList)) with
    | false =>
      rw [if_neg Bool.false_ne_true]
      rw [hg] at q
      exact q _ H3 (x2.trans x3) (.bl _)
    | true =>
      rw [if_pos rfl]
      rw [hg] at q
      refine hc H3 ((x1.trans x2).trans x3) _ fun t H4 x4 ht => ⟨y, z, rfl, dq_str ht, q _ H4 ((x2.trans x3).trans x4) ?_⟩
      rw [Bool.true_and]
      exact .bl _
end Wr

set_option Elab.async false
set_option linter.all false
set_option maxRecDepth 100000
set_option maxHeartbeats 4000000
namespace Wr
open PySem PySem.Spec PyProof.Rows L2 Evl TL
abbrev s_isn : Stmt := topS 64
abbrev s_isw : Stmt := topS 65
abbrev s_isr : Stmt := topS 66
abbrev NIsn : List Str := ["_law_thing", "_law_letter"]
abbrev NIsw : List Str := ["_law_thing", "_law_least", "_law_most"]
abbrev NIsr : List Str := ["_law_thing", "_law_at", "_law_many", "_law_called", "_law_alone", "_law_word", "_law_what"]
theorem sc_isn : FnScope NIsn ["_law_thing"] (defScope s_isn) := ⟨rfl, rfl, rfl, by decide +kernel, rfl, by decide +kernel, by decide +kernel⟩
theorem sc_isw : FnScope NIsw NIsw (defScope s_isw) := ⟨rfl, rfl, rfl, by decide +kernel, rfl, by decide +kernel, by decide +kernel⟩
abbrev PIsr : List Str := ["_law_thing", "_law_at", "_law_many", "_law_called"]
theorem sc_isr : FnScope NIsr PIsr (defScope s_isr) := ⟨rfl, rfl, rfl, by decide +kernel, rfl, by decide +kernel, by decide +kernel⟩
theorem eqv_nilL (ds : List PyData) : PyData.eqv (.list ds) (.list []) = ds.isEmpty := by
  cases ds <;> simp only [PyData.eqv, PyData.eqvAll, List.isEmpty]
theorem sh_nilL : SeqAt.shaped (.list []) = true := (sh_strs (xs := []) rfl).2
theorem eqv_nstr {d : PyData} (h : isD "str" d = false) (x : Str) : PyData.eqv d (.str x) = false := by
  cases d <;> first | (simp only [PyData.eqv]; done) | (simp [isD, dTy, tyIs] at h)
theorem one_lt (c d : Nat) : decide (([c] : List Nat) < [d]) = decide (c < d) := by
  by_cases h : c < d
  · rw [decide_eq_true h]
    exact decide_eq_true (List.Lex.rel h)
  · rw [decide_eq_false h]
    refine decide_eq_false fun z => ?_
    cases z with
    | rel h' => exact h h'
    | cons h' => cases h'
theorem az_chain (c : Nat) : (!decide ((⟨#[c]⟩ : Str).cps.toList < ("a" : Str).cps.toList) && !decide (("z" : Str).cps.toList < (⟨#[c]⟩ : Str).cps.toList)) = decide (c ∈ abc.cps.toList) := by
  have ea : ("a" : Str).cps.toList = [97] := by decide +kernel
  have ez : ("z" : Str).cps.toList = [122] := by decide +kernel
  have ec : (⟨#[c]⟩ : Str).cps.toList = [c] := rfl
  rw [ea, ez, ec, one_lt, one_lt]
  by_cases h : 97 ≤ c ∧ c ≤ 122
  · rw [decide_eq_true ((abc_mem c).mpr h), decide_eq_false (by omega), decide_eq_false (by omega)]
    rfl
  · rw [decide_eq_false (fun z => h ((abc_mem c).mp z))]
    by_cases h1 : c < 97
    · rw [decide_eq_true h1]; rfl
    · rw [decide_eq_true (show 122 < c by omega), Bool.and_comm]; rfl
theorem no_filter {α : Type} (p : α → Bool) : ∀ l : List α, (l.filter fun c => !p c).isEmpty = l.all p
  | [] => rfl
  | c :: l => by
    rw [List.filter_cons, List.all_cons]
    cases p c with
    | true => exact no_filter p l
    | false => rfl
section
variable {P : Program} {w : World} {K : PySem.W.Frag} {mg : Str → Option Value} {base : Heap} {f g g2 g3 g4 g5 : Addr} {fd gd gd2 gd3 gd4 gd5 : FuncData}
theorem ok_isn (D : Def K mg "_law_is_name" s_isn ["_law_thing"] f fd) (B : Blt mg) : FnOk P w K mg base CX0 1 f fd ["_law_thing"] (spP K (fun ds => ds.length = 1 ∧ ∀ d, ds = [d] → okD 30 d = true) (F1 nameD)) := by
  refine D.F.ok sc_isn (fun vs H Q E h => spP_len (fun _ h => h.1) h) (fun cdv A outer s H vs Q E hr h => ?_)
  obtain ⟨b, ds, kn, hd, ⟨hp, hok⟩, q⟩ := h
  obtain ⟨v, d, rfl, rfl, h1⟩ := one_of hd hp
  have hok := hok d rfl
  refine ⟨_, pss_cons (ps_if (PW.pt (pw_or (pt_not (pt_val (pe_callB call_isi rfl B.isi bb_isinstance (pa_cons (pv 0) (pa_cons (pe_tyN rfl B.str bt_str) pa_nil))))) (pw_or (pt_cmpR op_lt (pe_callB call_lenD1 rfl B.len bb_len (pa_cons (pv 0) pa_nil)) pe_int (nomark _)) (pw_or1 (pt_cmpR op_gt (pe_callB call_lenD1 rfl B.len bb_len (pa_cons (pv 0) pa_nil)) pe_int (nomark _)))))) (pss_one (ps_ret pe_bl)) pss_nil)
    (pss_one (ps_ret (pe_cmpR (op_eqD (hu64 hr)) (pe_lc (own := [("_law_letter", 1)]) (g := gName 1) (tt := (tNot (tTest (tChain rLeS rLeS (tC (.str "a")) (tVar 1) (tC (.str "z")))))) rfl sc_isn.nd (pi_str (pv 0)) (blkOk_by (N := NIsn) (sc := defScope s_isn) (by decide +kernel)) (fun _ _ _ _ _ => (pg_name (i := 1) sc_isn.nd rfl (Or.inl rfl))) (fun _ _ _ _ _ => (pts_one (pt_not (pt_chain op_leS op_leS pe_str (pv 1) pe_str)))) (fun _ _ _ _ _ => (pv 1))) (pe_lst pa_nil) (nomark _)))), ?_⟩
  have t1 := et_n (et_b (ed_isi (K := K) (b := b) (σ := start NIsn [v]) (H := H) (T := "str") (.inr (.inr (.inl rfl))) (ed_var (i := 0) rfl h1)))
  cases hs : isD "str" d with
  | false =>
    rw [hs] at t1
    refine SR.fin ((sr_if (e := .none) (et_or (b := false) t1 fun h => nomatch h) (fun _ => sr_ret ed_bl) fun h => nomatch h).to ?_) q
    have : nameD d = false := by
      cases d <;> first | rfl | (simp [isD, dTy, tyIs] at hs)
    show PyData.bool false = .bool (nameD d)
    rw [this]
  | true =>
    obtain ⟨x, rfl⟩ := isD_str hs
    have hl := ok_str hok
    rw [hs] at t1
    have ln := ed_len (K := K) (b := b) (σ := start NIsn [v]) (H := H) (d := .str x) (ed_var (i := 0) rfl h1) (.inl hs) fun y e => by cases e; exact Nat.le_trans hl (by decide)
    have t2 := et_t (ed_lt (K := K) (b := b) ln (ed_int (i := 1)))
    have t3 := et_t (ed_gt (K := K) (b := b) ln (ed_int (i := 8)))
    have t23 := et_or t2 fun _ => t3
    have tt := et_or t1 fun _ => t23
    have lc := ed_lcS (K := K) (b := b) (k := 1) (p := fun c => !decide (c ∈ abc.cps.toList)) (tt := tNot (tTest (tChain rLeS rLeS (tC (.str "a")) (tVar 1) (tC (.str "z"))))) (σ := start NIsn [v]) (show 1 < 2 by decide) kn (ed_var (i := 0) rfl h1) (Nat.lt_of_le_of_lt hl (by decide))
      (fun c H3 hc x3 => by
        have := et_n (et_t (ed_chainS (K := K) (b := b) (σ := (wipe (start NIsn [v]) [1]).set 1 (some (.str ⟨#[c]⟩))) (H := H3) (ed_str (x := "a")) (ed_var (i := 1) rfl (.str ⟨#[c]⟩)) (ed_str (x := "z"))))
        rw [az_chain] at this
        exact this)
    have shl : SeqAt.shaped (.list ((x.cps.toList.filter fun c => !decide (c ∈ abc.cps.toList)).map fun c => PyData.str ⟨#[c]⟩)) = true := by
      have hx : PyData.strOk x = true := by
        have : (PyData.strOk x && decide (x.length ≤ 1000)) = true := hok
        rw [Bool.and_eq_true] at this
        exact this.1
      have hall : ((x.cps.toList.filter fun c => !decide (c ∈ abc.cps.toList)).map fun c => (⟨#[c]⟩ : Str)).all PyData.strOk = true := List.all_eq_true.mpr fun y hy => by
        obtain ⟨c, hc, rfl⟩ := List.mem_map.mp hy
        refine strOk_of fun c' hc' => ?_
        have : c' = c := List.mem_singleton.mp hc'
        rw [this]
        exact strOk_tl hx c (List.mem_filter.mp hc).1
      have := (sh_strs hall).2
      rw [List.map_map] at this
      exact this
    have ee := ed_eq lc (ed_lst kn ea_nil (by decide)) shl sh_nilL
    rw [eqv_nilL, List.isEmpty_map, no_filter] at ee
    refine SR.fin ((sr_if tt (fun _ => sr_ret ed_bl) fun _ => sr_ret ee).to ?_) q
    show _ = PyData.bool (nameS x)
    rw [nameS_az]
    unfold azS
    have e1 : (!true || (decide (((lenD (.str x) : Nat) : Int) < 1) || decide ((8 : Int) < ((lenD (.str x) : Nat) : Int)))) = !decide (1 ≤ x.length ∧ x.length < 9) := by
      show (decide (((x.length : Nat) : Int) < 1) || decide ((8 : Int) < ((x.length : Nat) : Int))) = _
      by_cases h : 1 ≤ x.length ∧ x.length < 9
      · rw [decide_eq_true h, decide_eq_false (by omega), decide_eq_false (by omega)]; rfl
      · rw [decide_eq_false h]
        by_cases h1 : x.length < 1
        · rw [decide_eq_true (by omega)]; rfl
        · rw [decide_eq_true (show (8 : Int) < ((x.length : Nat) : Int) by omega), Bool.or_comm]; rfl
    rw [e1]
    cases decide (1 ≤ x.length ∧ x.length < 9) <;> rfl
def IswPre (ds : List PyData) : Prop := ∃ d i j, ds = [d, .int i, .int j]
def iswD (d : PyData) (i j : Int) : Bool := match d with
  | .int k => decide (i ≤ k) && decide (k ≤ j)
  | _ => false
def iswF (ds : List PyData) : PyData := match ds with
  | [d, .int i, .int j] => .bool (iswD d i j)
  | _ => .none
theorem ok_isw (D : Def K mg "_law_is_whole" s_isw NIsw f fd) (B : Blt mg) : FnOk P w K mg base CX0 1 f fd NIsw (spP K IswPre iswF) := by
  refine D.F.ok sc_isw (fun vs H Q E h => spP_len (fun _ ⟨_, _, _, e⟩ => by rw [e]; rfl) h) (fun cdv A outer s H vs Q E hr h => ?_)
  obtain ⟨b, ds, kn, hd, ⟨d, i, j, rfl⟩, q⟩ := h
  obtain ⟨v, v2, v3, d', d2, d3, rfl, ed, h1, h2, h3⟩ := three_of hd rfl
  cases ed
  refine ⟨_, pss_one (ps_ret (pe_and (pe_callB call_isi rfl B.isi bb_isinstance (pa_cons (pv 0) (pa_cons (pe_tyN rfl B.int bt_int) pa_nil))) (pe_and (pe_not (pe_callB call_isi rfl B.isi bb_isinstance (pa_cons (pv 0) (pa_cons (pe_tyN rfl B.bool bt_bool) pa_nil)))) (pe_one (pe_chain op_le op_le (pv 1) (pv 0) (pv 2)))))), ?_⟩
  refine SR.fin (sr_ret ((ed_andB (k := !isD "bool" d && iswD d i j) (ed_isi (.inl rfl) (ed_var (i := 0) rfl h1)) fun hi => ed_andB (k := iswD d i j) (ed_not (ed_isi (.inr (.inl rfl)) (ed_var (i := 0) rfl h1))) fun hb => by
    have hw : wholeD d = true := by
      show (isD "int" d && !isD "bool" d) = true
      rw [hi, hb]
      rfl
    obtain ⟨k, rfl⟩ := wholeD_int hw
    exact ed_chain (ed_var (i := 1) rfl h2) (ed_var (i := 0) rfl h1) (ed_var (i := 2) rfl h3)).to ?_)) q
  show PyData.bool (isD "int" d && (!isD "bool" d && iswD d i j)) = .bool (iswD d i j)
  cases d <;> first | rfl | (simp [isD, dTy, tyIs, iswD])
def RowPre2 (ds : List PyData) : Prop := ds.length = 4 ∧ ∀ d i m c, ds = [d, i, m, c] → okD 30 d = true ∧ (∃ k, i = .int k) ∧ (∃ k, m = .int k) ∧ ∃ xs : List Str, xs.all nameS = true ∧ c = .list (xs.map .str)
theorem isw_worth (c : PyData) : iswD c (-1000000000000) 1000000000000 = worthD c := by cases c <;> rfl
theorem isw_index (c : PyData) (m : Int) : iswD c 0 (m - 1) = indexD c m := by
  cases c with
  | int k =>
    show (decide (0 ≤ k) && decide (k ≤ m - 1)) = (decide (0 ≤ k) && decide (k < m))
    have : decide (k ≤ m - 1) = decide (k < m) := by
      by_cases h : k < m
      · rw [decide_eq_true h, decide_eq_true (by omega)]
      · rw [decide_eq_false h, decide_eq_false (by omega)]
    rw [this]
  | _ => rfl
theorem row_two (z : Str) (c : PyData) (i m : Int) (xs : List Str) :
    (if decide (z = "put") = true then PyData.bool (worthD c)
      else if decide (z ∈ rowW) = true then .bool (indexD c m && !(decide (z = "try") && PyData.eqv c (.int (i + 1))))
      else if decide (z = "call") = true then .bool (isD "str" c && inD c (xs.map .str))
      else .bool (decide (z ∈ nameW) && nameD c)) = .bool (rowD (.tuple [.str z, c]) i m xs) := by
  rw [rowD_two, strEq, strEq, strEq, inD_str, inD_str]
  have hc : (isD "str" c && inD c (xs.map .str)) = inD c (xs.map .str) := by
    cases hs : isD "str" c with
    | true => rfl
    | false => rw [inD_nstr hs]; rfl
  rw [hc]
  by_cases h1 : z = "put"
  · subst h1
    rfl
  · rw [decide_eq_false h1]
    simp only [Bool.false_eq_true, if_false]
    by_cases h2 : z ∈ rowW
    · have h3 : z ∉ nameW := by
        rcases (show z = "go" ∨ z = "if" ∨ z = "try" by simpa [rowW] using h2) with rfl | rfl | rfl <;> decide +kernel
      have h4 : z ≠ "call" := by
        rcases (show z = "go" ∨ z = "if" ∨ z = "try" by simpa [rowW] using h2) with rfl | rfl | rfl <;> decide +kernel
      simp only [decide_eq_true h2, decide_eq_false h3, decide_eq_false h4, if_true, Bool.false_eq_true, if_false, Bool.true_and]
    · simp only [decide_eq_false h2, Bool.false_eq_true, if_false, Bool.false_and]
      by_cases h3 : z ∈ nameW
      · have h4 : z ≠ "call" := by
          rcases (show z = "get" ∨ z = "set" ∨ z = "look" ∨ z = "change" by simpa [nameW] using h3) with rfl | rfl | rfl | rfl <;> decide +kernel
        simp only [decide_eq_true h3, decide_eq_false h4, if_true, Bool.false_eq_true, if_false, Bool.true_and]
      · by_cases h4 : z = "call"
        · simp only [decide_eq_false h3, decide_eq_true h4, if_true, Bool.false_eq_true, if_false]
        · simp only [decide_eq_false h3, decide_eq_false h4, Bool.false_eq_true, if_false, Bool.false_and]
theorem lone_cat : lone13.map PyData.str ++ ([.str "lead", .str "turn"] : List PyData) = loneW.map .str := rfl
theorem sh_pair : SeqAt.shaped (.list [.int 1, .int 2]) = true := by decide +kernel
theorem inD_12 (n : Nat) : inD (.int ((n : Nat) : Int)) [.int 1, .int 2] = decide (n = 1 ∨ n = 2) := by
  show ([PyData.int 1, .int 2].any fun y => PyData.eqv y (.int ((n : Nat) : Int))) = _
  show (PyData.eqv (.int 1) (.int ((n : Nat) : Int)) || (PyData.eqv (.int 2) (.int ((n : Nat) : Int)) || false)) = _
  rw [eqv_int, eqv_int]
  by_cases h1 : n = 1
  · subst h1; rfl
  · by_cases h2 : n = 2
    · subst h2; rfl
    · rw [decide_eq_false (by omega), beq_eq_false_iff_ne.mpr (by omega), beq_eq_false_iff_ne.mpr (by omega)]
      rfl
theorem ok_isr (D : Def K mg "_law_is_row" s_isr PIsr f fd) (Dw : Def K mg "_law_is_whole" s_isw NIsw g gd) (Dn : Def K mg "_law_is_name" s_isn ["_law_thing"] g2 gd2) (B : Blt mg) :
    FnOk P w K mg base CX0 2 f fd PIsr (spP K RowPre2 rowF) := by
  refine D.F.ok sc_isr (fun vs H Q E h => spP_len (fun _ h => h.1) h) (fun cdv A outer s H vs Q E hr h => ?_)
  obtain ⟨b, ds, kn, hd, ⟨hp, hp2⟩, q⟩ := h
  obtain ⟨v, v2, v3, v4, d, d2, d3, d4, rfl, rfl, h1, h2, h3, h4⟩ := four_of hd hp
  obtain ⟨hok, ⟨i, rfl⟩, ⟨m, rfl⟩, xs, hxs, rfl⟩ := hp2 d d2 d3 d4 rfl
  have Gw := ok_isw (P := P) (w := w) (base := base) Dw B
  have Gn := ok_isn (P := P) (w := w) (base := base) Dn B
  refine ⟨_, pss_cons (ps_set (i := 4) sc_isr.nd rfl (Or.inl rfl) (pe_lst (pa_cons pe_str (pa_cons pe_str (pa_cons pe_str (pa_cons pe_str (pa_cons pe_str (pa_cons pe_str (pa_cons pe_str (pa_cons pe_str (pa_cons pe_str (pa_cons pe_str (pa_cons pe_str (pa_cons pe_str (pa_cons pe_str pa_nil)))))))))))))))
    (pss_cons (ps_if (PW.pt (pw_or (pt_not (pt_val (pe_callB call_isi rfl B.isi bb_isinstance (pa_cons (pv 0) (pa_cons (pe_tyN rfl B.tuple bt_tuple) pa_nil))))) (pw_or (pt_cmpR (op_notInD (hu65 hr)) (pe_callB call_lenD1 rfl B.len bb_len (pa_cons (pv 0) pa_nil)) (pe_lst (pa_cons pe_int (pa_cons pe_int pa_nil))) rfl) (pw_or1 (pt_not (pt_val (pe_callB call_isi rfl B.isi bb_isinstance (pa_cons (pe_ix ix_tup (pv 0) pe_int (fun _ _ => rfl)) (pa_cons (pe_tyN rfl B.str bt_str) pa_nil))))))))) (pss_one (ps_ret pe_bl)) pss_nil)
    (pss_cons (ps_if (pt_cmpR op_eq (pe_callB call_lenD1 rfl B.len bb_len (pa_cons (pv 0) pa_nil)) pe_int (nomark _)) (pss_one (ps_ret (pe_cmpR (op_inD (hu65 hr)) (pe_ix ix_tup (pv 0) pe_int (fun _ _ => rfl)) (pe_op op_cat (pv 4) (pe_lst (pa_cons pe_str (pa_cons pe_str pa_nil)))) rfl))) pss_nil)
    (pss_cons (ps_asg (pv 0) (pg_tup rfl (pgs_cons (pg_name (i := 5) sc_isr.nd rfl (Or.inl rfl)) (pgs_cons (pg_name (i := 6) sc_isr.nd rfl (Or.inl rfl)) pgs_nil))))
    (pss_cons (ps_if (pt_cmpR (op_eqD (hu64 hr)) (pv 5) pe_str (nomark _)) (pss_one (ps_ret (pe_cd Dw Gw hr (pa_cons (pv 6) (pa_cons (pe_un un_neg (pe_op op_pow pe_int pe_int)) (pa_cons (pe_op op_pow pe_int pe_int) pa_nil)))))) pss_nil)
    (pss_cons (ps_if (pt_cmpR (op_inD (hu65 hr)) (pv 5) (pe_lst (pa_cons pe_str (pa_cons pe_str (pa_cons pe_str pa_nil)))) rfl) (pss_one (ps_ret (pe_and (pe_cd Dw Gw hr (pa_cons (pv 6) (pa_cons pe_int (pa_cons (pe_op op_sub (pv 2) pe_int) pa_nil)))) (pe_one (pe_not (pe_and (pe_cmpR (op_eqD (hu64 hr)) (pv 5) pe_str (nomark _)) (pe_one (pe_cmpR (op_eqD (hu64 hr)) (pv 6) (pe_op op_add (pv 1) pe_int) (nomark _))))))))) pss_nil)
    (pss_cons (ps_if (pt_cmpR (op_eqD (hu64 hr)) (pv 5) pe_str (nomark _)) (pss_one (ps_ret (pe_and (pe_callB call_isi rfl B.isi bb_isinstance (pa_cons (pv 6) (pa_cons (pe_tyN rfl B.str bt_str) pa_nil))) (pe_one (pe_cmpR (op_inD (hu65 hr)) (pv 6) (pv 3) rfl))))) pss_nil)
    (pss_one (ps_ret (pe_and (pe_cmpR (op_inD (hu65 hr)) (pv 5) (pe_lst (pa_cons pe_str (pa_cons pe_str (pa_cons pe_str (pa_cons pe_str pa_nil))))) rfl) (pe_one (pe_cd Dn Gn hr (pa_cons (pv 6) pa_nil)))))))))))), ?_⟩
  have hsl : sizeLine = 16777216 := sizeLine_eq
  refine g_lst (K := K) (b := b) (ds := lone13.map .str) kn (ea_cons ed_str (ea_cons ed_str (ea_cons ed_str (ea_cons ed_str (ea_cons ed_str (ea_cons ed_str (ea_cons ed_str (ea_cons ed_str (ea_cons ed_str (ea_cons ed_str (ea_cons ed_str (ea_cons ed_str (ea_cons ed_str ea_nil))))))))))))) (by decide) fun pA vsA H1 hpA x1 hA dA => ?_
  have eA := dps_strs dA
  subst eA
  have kn1 := kn.up x1
  have g1 := Dq.up h1 x1
  have g2 := Dq.up h2 x1
  have g3 := Dq.up h3 x1
  have g4 := Dq.up h4 x1
  have q : ∀ v H', Ex H1 H' → Dq K b H' v (.bool (rowD d i m (strsOf (xs.map .str)))) → Q v H' := fun v H' x hv => q v H' (x1.trans x) hv
  rw [strsOf_map] at q
  show tSeq _ _ _ [some v, some v2, some v3, some v4, some (.ref pA), none, none] H1
  have t1 := et_n (et_b (ed_isi (K := K) (b := b) (σ := [some v, some v2, some v3, some v4, some (.ref pA), none, none]) (H := H1) (T := "tuple") (.inr (.inr (.inr (.inl rfl)))) (ed_var (i := 0) rfl g1)))
  cases hs : isD "tuple" d with
  | false =>
    rw [hs] at t1
    refine SR.fin ((sr_if (e := .none) (et_or (b := false) t1 fun h => nomatch h) (fun _ => sr_ret ed_bl) fun h => nomatch h).to ?_) q
    have : rowD d i m xs = false := by
      cases d <;> first | rfl | (simp [isD, dTy, tyIs] at hs)
    show PyData.bool false = .bool (rowD d i m xs)
    rw [this]
  | true =>
    obtain ⟨ds, rfl⟩ := isD_tuple hs
    rw [hs] at t1
    have okx : ∀ e ∈ ds, okD 30 e = true := fun e he => ok_up (ok_items (n := 29) hok e he) (by omega)
    have ln := ed_len (K := K) (b := b) (σ := [some v, some v2, some v3, some v4, some (.ref pA), none, none]) (H := H1) (ed_var (i := 0) rfl g1) (.inr (.inr hs)) fun y e => by cases e
    have t2 := et_t (ed_ninL (K := K) (b := b) ln (ed_lst kn1 (ea_cons (ed_int (i := 1)) (ea_cons (ed_int (i := 2)) ea_nil)) (sz2 (by decide))) (sh_int _) sh_pair)
    rw [show inD (.int ((lenD (.tuple ds) : Nat) : Int)) [.int 1, .int 2] = decide (ds.length = 1 ∨ ds.length = 2) from inD_12 ds.length] at t2
    by_cases h12 : ds.length = 1 ∨ ds.length = 2
    · rw [decide_eq_true h12] at t2
      obtain ⟨a, r, rfl⟩ : ∃ a r, ds = a :: r := by
        cases ds with
        | nil => rcases h12 with h | h <;> cases h
        | cons a r => exact ⟨a, r, rfl⟩
      have i0 : ∀ {σ' H'}, Ex H1 H' → σ'[0]? = some (some v) → ED K b (tOp (rIxT K) (tVar 0) (tC (.int 0))) σ' H' a := fun {σ' H'} x hσ => ed_ixT (ed_var (i := 0) hσ (Dq.up g1 x)) ed_int (atI0 a r)
      have t3 := et_n (et_b (ed_isi (K := K) (b := b) (T := "str") (.inr (.inr (.inl rfl))) (i0 (σ' := [some v, some v2, some v3, some v4, some (.ref pA), none, none]) (Ex.refl H1) rfl)))
      cases ha : isD "str" a with
      | false =>
        rw [ha] at t3
        have t23 := et_or (b := true) t2 fun _ => t3
        have tt := et_or (b := true) t1 fun _ => t23
        refine SR.fin ((sr_if (e := .none) tt (fun _ => sr_ret ed_bl) fun h => nomatch h).to ?_) q
        have : rowD (.tuple (a :: r)) i m xs = false := by
          match r with
          | [] => exact inD_nstr ha loneW
          | [c] => rw [rowD_two, eqv_nstr ha, inD_nstr ha, eqv_nstr ha, inD_nstr ha]; rfl
          | _ :: _ :: _ => rfl
        show PyData.bool false = .bool (rowD (.tuple (a :: r)) i m xs)
        rw [this]
      | true =>
        obtain ⟨z, rfl⟩ := isD_str ha
        rw [ha] at t3
        have t23 := et_or t2 fun _ => t3
        have tt := et_or t1 fun _ => t23
        have sz := ok_shaped (okx (.str z) (by simp))
        have tl1 := et_t (ed_eqI (K := K) (b := b) (σ := [some v, some v2, some v3, some v4, some (.ref pA), none, none]) (H := H1) ln (ed_int (i := 1)))
        match r, okx with
        | [], okx =>
          rw [decide_eq_true (show ((lenD (.tuple [.str z]) : Nat) : Int) = 1 from rfl)] at tl1
          have cat : ED K b (tOp rCat (tVar 4) (tLst (tCons (tC (.str "lead")) (tCons (tC (.str "turn")) tNil)))) [some v, some v2, some v3, some v4, some (.ref pA), none, none] H1 (.list (loneW.map .str)) := fun H2 y2 Q' q' => by
            refine ⟨.ref pA, rfl, by show 2 ≤ sizeLine; omega, fun p2 hp2 => ?_⟩
            have xa := Ex.new (o := HO.lst [V.str "lead", .str "turn"]) hp2
            refine ⟨pA, p2, _, _, rfl, rfl, xa _ _ (y2 _ _ hA), upd_same, by show 13 + 2 ≤ sizeLine; omega, fun p3 hp3 => ?_⟩
            have xb := Ex.new (o := HO.lst (lone13.map V.str ++ [V.str "lead", .str "turn"])) hp3
            exact q' _ _ (xa.trans xb) (.lst (.inl (.inl (hid_new (((kn1.up y2).up xa).new hp3)))) (strs_dps loneW))
          refine SR.fin ((sr_if (d := .none) tt (fun h => nomatch h) fun _ => sr_if (e := .none) tl1 (fun _ => sr_ret (ed_inL (i0 (Ex.refl H1) rfl) cat sz (sh_strs (xs := loneW) (by decide +kernel)).2)) fun h => nomatch h).to ?_) q
          rfl
        | [c], okx =>
          rw [decide_eq_false (show ¬ ((lenD (.tuple [.str z, c]) : Nat) : Int) = 1 by show ¬ ((2 : Nat) : Int) = 1; decide)] at tl1
          have sc := ok_shaped (okx c (by simp))
          have okc : okD 30 c = true := okx c (by simp)
          have pw : ∀ {σ'} {H'}, ED K b (tOp (rI CPow fun i j => .int (i ^ j.toNat)) (tC (.int 10)) (tC (.int 12))) σ' H' (.int 1000000000000) := fun {_ _} => ed_I ed_int ed_int ⟨by decide, by decide, by decide⟩ fun _ => .int _
          refine SR.fin ((sr_if (d := .none) tt (fun h => nomatch h) fun _ => sr_if (d := .none) tl1 (fun h => nomatch h) fun _ => sr_unpack2 (d := .bool (rowD (.tuple [.str z, c]) i m xs)) (ed_var (i := 0) rfl g1) fun v5 v6 H' x' p1 p2 => ?_).to rfl) q
          have kn' := kn1.up x'
          have g2' := Dq.up g2 x'
          have g3' := Dq.up g3 x'
          have g4' := Dq.up g4 x'
          have hs5 : ∀ (y : Str), PyData.strOk y = true → EvT (tTest (tOp (rEqD K) (tVar 5) (tC (.str y)))) [some v, some v2, some v3, some v4, some (.ref pA), some v5, some v6] H' (decide (z = y)) := fun y hy => by
            have := et_t (ed_eq (K := K) (b := b) (σ := [some v, some v2, some v3, some v4, some (.ref pA), some v5, some v6]) (H := H') (ed_var (i := 5) rfl p1) (ed_str (x := y)) sz (sh_str hy))
            rw [strEq] at this
            exact this
          have e5 : ∀ (y : Str), PyData.strOk y = true → ED K b (tOp (rEqD K) (tVar 5) (tC (.str y))) [some v, some v2, some v3, some v4, some (.ref pA), some v5, some v6] H' (.bool (decide (z = y))) := fun y hy => by
            have := ed_eq (K := K) (b := b) (σ := [some v, some v2, some v3, some v4, some (.ref pA), some v5, some v6]) (H := H') (ed_var (i := 5) rfl p1) (ed_str (x := y)) sz (sh_str hy)
            rw [strEq] at this
            exact this
          have tr := et_t (ed_inL (K := K) (b := b) (σ := [some v, some v2, some v3, some v4, some (.ref pA), some v5, some v6]) (H := H') (ds := rowW.map .str) (ed_var (i := 5) rfl p1) (ed_lst kn' (ea_cons ed_str (ea_cons ed_str (ea_cons ed_str ea_nil))) (by decide)) sz (sh_strs (xs := rowW) (by decide +kernel)).2)
          rw [inD_str] at tr
          have tn := ed_inL (K := K) (b := b) (σ := [some v, some v2, some v3, some v4, some (.ref pA), some v5, some v6]) (H := H') (ds := nameW.map .str) (ed_var (i := 5) rfl p1) (ed_lst kn' (ea_cons ed_str (ea_cons ed_str (ea_cons ed_str (ea_cons ed_str ea_nil)))) (by decide)) sz (sh_strs (xs := nameW) (by decide +kernel)).2
          rw [inD_str] at tn
          have c1 := ed_call (K := K) (b := b) (σ := [some v, some v2, some v3, some v4, some (.ref pA), some v5, some v6]) (H := H') (pre := IswPre) (f := iswF) (E := E0) kn' (ea_cons (ed_var (i := 6) rfl p2) (ea_cons (ed_neg pw) (ea_cons pw ea_nil))) ⟨c, _, _, rfl⟩
          have c1 : ED K b _ _ H' (.bool (iswD c (-1000000000000) 1000000000000)) := c1
          rw [isw_worth] at c1
          have c2 := ed_call (K := K) (b := b) (σ := [some v, some v2, some v3, some v4, some (.ref pA), some v5, some v6]) (H := H') (pre := IswPre) (f := iswF) (E := E0) kn' (ea_cons (ed_var (i := 6) rfl p2) (ea_cons (ed_int (i := 0)) (ea_cons (ed_sub (ed_var (i := 2) rfl g3') (ed_int (i := 1))) ea_nil))) ⟨c, _, _, rfl⟩
          have c2 : ED K b _ _ H' (.bool (iswD c 0 (m - 1))) := c2
          rw [isw_index] at c2
          have c3 := ed_call (K := K) (b := b) (σ := [some v, some v2, some v3, some v4, some (.ref pA), some v5, some v6]) (H := H') (pre := fun ds => ds.length = 1 ∧ ∀ d, ds = [d] → okD 30 d = true) (f := F1 nameD) (E := E0) kn' (ea_cons (ed_var (i := 6) rfl p2) ea_nil) ⟨rfl, fun e' h' => by cases h'; exact okc⟩
          have c3 : ED K b _ _ H' (.bool (nameD c)) := c3
          have hxo : xs.all PyData.strOk = true := List.all_eq_true.mpr fun x hx => name_strOk (List.all_eq_true.mp hxs x hx)
          have n1 := ed_not (ed_andB (e5 "try" (by decide +kernel)) fun _ => ed_eq (K := K) (b := b) (ed_var (i := 6) rfl p2) (ed_add (ed_var (i := 1) rfl g2') (ed_int (i := 1))) sc (sh_int _))
          have r2 := ed_andB c2 fun _ => n1
          have r3 := ed_andB (ed_isi (K := K) (b := b) (σ := [some v, some v2, some v3, some v4, some (.ref pA), some v5, some v6]) (H := H') (T := "str") (.inr (.inr (.inl rfl))) (ed_var (i := 6) rfl p2)) fun _ => ed_inL (ed_var (i := 6) rfl p2) (ed_var (i := 3) rfl g4') sc (sh_strs hxo).2
          have r4 := ed_andB tn fun _ => c3
          exact (sr_if (hs5 "put" (by decide +kernel)) (fun _ => sr_ret c1) fun _ => sr_if tr (fun _ => sr_ret r2) fun _ => sr_if (hs5 "call" (by decide +kernel)) (fun _ => sr_ret r3) fun _ => sr_ret r4).to (row_two z c i m xs)
        | _ :: _ :: _, okx => rcases h12 with h | h <;> (have h : _ + 1 + 1 + 1 = _ := h; omega)
    · rw [decide_eq_false h12] at t2
      have t23 := et_or (b := false) (u := tNot (tB (tCB (rIsi K) (tCons (tOp (rIxT K) (tVar 0) (tC (.int 0))) (tCons (tC (.ty "str")) tNil))))) t2 fun h => nomatch h
      have tt := et_or (b := true) t1 fun _ => t23
      refine SR.fin ((sr_if (e := .none) tt (fun _ => sr_ret ed_bl) fun h => nomatch h).to ?_) q
      have : rowD (.tuple ds) i m xs = false := by
        match ds, h12 with
        | [], _ => rfl
        | [_], h => exact absurd (.inl rfl) h
        | [_, _], h => exact absurd (.inr rfl) h
        | _ :: _ :: _ :: _, _ => rfl
      show PyData.bool false = .bool (rowD (.tuple ds) i m xs)
      rw [this]
end
end Wr

set_option Elab.async false
set_option linter.all false
set_option maxRecDepth 100000
set_option maxHeartbeats 4000000
namespace Wr
open PySem PySem.Spec PyProof.Rows L2 Evl TL
abbrev s_isp : Stmt := topS 67
abbrev NIsp : List Str := ["_law_thing", "_law_called", "_law_part", "_law_name", "_law_names_here", "_law_rows", "_law_at", "_law_row_here"]
theorem sc_isp : FnScope NIsp ["_law_thing"] (defScope s_isp) := ⟨rfl, rfl, rfl, by decide +kernel, rfl, by decide +kernel, by decide +kernel⟩
def rows1 (d : PyData) : Bool := match d with
  | .tuple rs => decide (1 ≤ rs.length) && decide (rs.length ≤ 60)
  | _ => false
def rows2 (d : PyData) (xs : List Str) : Bool := match d with
  | .tuple rs => (List.range rs.length).all fun i => rowD (rs.getD i .none) i rs.length xs
  | _ => false
theorem rows_12 (d : PyData) (xs : List Str) : rowsD d xs = (rows1 d && rows2 d xs) := by cases d <;> rfl
theorem prog_inv {ds : List PyData} (h : progD (.tuple ds) = true) : 1 ≤ ds.length ∧ ds.length ≤ 8 ∧ (∀ p ∈ ds, headedD p = true ∧ rows1 (thd p) = true ∧ rows2 (thd p) (strsOf (ds.map fst)) = true) ∧ unlikeS (strsOf (ds.map fst)) = true := by
  have h : (((decide (1 ≤ ds.length) && decide ((ds.length : Int) ≤ 8)) && (ds.all headedD && unlikeS (strsOf (ds.map fst)))) && ds.all fun p => rowsD (thd p) (strsOf (ds.map fst))) = true := h
  simp only [Bool.and_eq_true] at h
  obtain ⟨⟨⟨h1, h2⟩, h3, h4⟩, h5⟩ := h
  have h2 := of_decide_eq_true h2
  refine ⟨of_decide_eq_true h1, by omega, fun p hp => ?_, h4⟩
  have := List.all_eq_true.mp h5 p hp
  rw [rows_12, Bool.and_eq_true] at this
  exact ⟨List.all_eq_true.mp h3 p hp, this.1, this.2⟩
theorem all_mem {α : Type} {p q : α → Bool} : ∀ {l : List α}, (∀ x ∈ l, p x = q x) → l.all p = l.all q
  | [], _ => rfl
  | x :: l, h => by
    rw [List.all_cons, List.all_cons, h x List.mem_cons_self, all_mem fun y hy => h y (List.mem_cons_of_mem _ hy)]
theorem prog_mk {ds : List PyData} {ys : List Str} (h1 : 1 ≤ ds.length) (h8 : ds.length ≤ 8) (hy : ds.map fst = ys.map .str) (hn : ys.Nodup) (hp : ∀ p ∈ ds, headedD p = true ∧ rows1 (thd p) = true) : progD (.tuple ds) = ds.all fun p => rows2 (thd p) ys := by
  show (((decide (1 ≤ ds.length) && decide ((ds.length : Int) ≤ 8)) && (ds.all headedD && unlikeS (strsOf (ds.map fst)))) && ds.all fun p => rowsD (thd p) (strsOf (ds.map fst))) = _
  rw [hy, strsOf_map, decide_eq_true h1, decide_eq_true (by omega), List.all_eq_true.mpr fun p hm => (hp p hm).1]
  have e : unlikeS ys = true := decide_eq_true ((uq_len_iff ys).mpr hn)
  rw [e]
  show ds.all (fun p => rowsD (thd p) ys) = _
  refine all_mem fun p hm => ?_
  rw [rows_12, (hp p hm).2, Bool.true_and]
theorem headed_of {d : PyData} (h : headedD d = true) : ∃ x cs e, d = .tuple [.str x, .tuple cs, e] ∧ nameS x = true ∧ namesD (.tuple cs) = true := by
  match d, h with
  | .tuple [a, c, e], h =>
    have h : (nameD a && namesD c) = true := h
    rw [Bool.and_eq_true] at h
    cases a with
    | str x =>
      cases c with
      | tuple cs => exact ⟨x, cs, e, rfl, h.1, h.2⟩
      | _ => cases h.2
    | _ => cases h.1
section
variable {P : Program} {w : World} {K : PySem.W.Frag} {mg : Str → Option Value} {base : Heap} {f g g2 g3 : Addr} {fd gd gd2 gd3 : FuncData}
theorem ok_isp (D : Def K mg "_law_is_program" s_isp ["_law_thing"] f fd) (Dr : Def K mg "_law_is_row" s_isr PIsr g gd) (Gr : FnOk P w K mg base CX0 2 g gd PIsr (spP K RowPre2 rowF))
    (Dn : Def K mg "_law_is_name" s_isn ["_law_thing"] g2 gd2) (Gn : FnOk P w K mg base CX0 1 g2 gd2 ["_law_thing"] (spP K (fun ds => ds.length = 1 ∧ ∀ d, ds = [d] → okD 30 d = true) (F1 nameD))) (B : Blt mg) :
    FnOk P w K mg base CX0 3 f fd ["_law_thing"] (spP K ProgPre (F1 progD)) := by
  refine D.F.ok sc_isp (fun vs H Q E h => spP_len (fun _ h => h.1) h) (fun cdv A outer s H vs Q E hr h => ?_)
  obtain ⟨b, ds, kn, hd, ⟨hp, hok⟩, q⟩ := h
  obtain ⟨v, d, rfl, rfl, h1⟩ := one_of hd hp
  have hok := hok d rfl
  refine ⟨_, pss_cons (ps_if (PW.pt (pw_or (pt_not (pt_val (pe_callB call_isi rfl B.isi bb_isinstance (pa_cons (pv 0) (pa_cons (pe_tyN rfl B.tuple bt_tuple) pa_nil))))) (pw_or1 (pt_not (pt_chain op_lt op_lt pe_int (pe_callB call_lenD1 rfl B.len bb_len (pa_cons (pv 0) pa_nil)) pe_int))))) (pss_one (ps_ret pe_bl)) pss_nil)
    (pss_cons (ps_set (i := 1) sc_isp.nd rfl (Or.inr rfl) (pe_lst pa_nil))
    (pss_cons (ps_for PassesOwn.never rfl (pi_tup (pv 0)) (pg_name (i := 2) sc_isp.nd rfl (Or.inl rfl)) (pss_cons (ps_if (PW.pt (pw_or (pt_not (pt_val (pe_callB call_isi rfl B.isi bb_isinstance (pa_cons (pv 2) (pa_cons (pe_tyN rfl B.tuple bt_tuple) pa_nil))))) (pw_or (pt_cmpR (op_neD (hu64 hr)) (pe_callB call_lenD1 rfl B.len bb_len (pa_cons (pv 2) pa_nil)) pe_int (nomark _)) (pw_or (pt_not (pt_val (pe_cd Dn Gn (hr.mono (by decide)) (pa_cons (pe_ix ix_tup (pv 2) pe_int (fun _ _ => rfl)) pa_nil)))) (pw_or1 (pt_cmpR (op_inD (hu65 hr)) (pe_ix ix_tup (pv 2) pe_int (fun _ _ => rfl)) (pv 1) rfl)))))) (pss_one (ps_ret pe_bl)) pss_nil)
    (pss_cons (ps_expr (pe_bm PySem.F.plainAttrs_list PySem.F.slot_list_append PySem.F.type_list_append mt_append (pv 1) (pa_cons (pe_ix ix_tup (pv 2) pe_int (fun _ _ => rfl)) pa_nil)))
    (pss_cons (ps_if (PW.pt (pw_or (pt_not (pt_val (pe_callB call_isi rfl B.isi bb_isinstance (pa_cons (pe_ix ix_tup (pv 2) pe_int (fun _ _ => rfl)) (pa_cons (pe_tyN rfl B.tuple bt_tuple) pa_nil))))) (pw_or (pt_cmpR op_gt (pe_callB call_lenD1 rfl B.len bb_len (pa_cons (pe_ix ix_tup (pv 2) pe_int (fun _ _ => rfl)) pa_nil)) pe_int (nomark _)) (pw_or1 (pt_not (pt_val (pe_callB (cr_all rfl) rfl B.all bb_all (pa_cons (pe_lc (own := [("_law_name", 3)]) (g := gName 3) (tt := tYes) rfl sc_isp.nd (pi_tup (pe_ix ix_tup (pv 2) pe_int (fun _ _ => rfl))) (blkOk_by (N := NIsp) (sc := defScope s_isp) (by decide +kernel)) (fun _ _ _ _ _ => (pg_name (i := 3) sc_isp.nd rfl (Or.inl rfl))) (fun _ _ _ _ _ => pts_nil) (fun _ _ _ _ _ => (pe_cd Dn Gn (hr.mono (by decide)) (pa_cons (pv 3) pa_nil)))) pa_nil)))))))) (pss_one (ps_ret pe_bl)) pss_nil)
    (pss_one (ps_if (PW.pt (pw_or (pt_cmpR op_lt (pe_callB call_lenK rfl B.len bb_len (pa_cons (pe_callTy (cr_setS rfl) rfl B.set bt_set (pa_cons (pe_ix ix_tup (pv 2) pe_int (fun _ _ => rfl)) pa_nil)) pa_nil)) (pe_callB call_lenD1 rfl B.len bb_len (pa_cons (pe_ix ix_tup (pv 2) pe_int (fun _ _ => rfl)) pa_nil)) (nomark _)) (pw_or (pt_not (pt_val (pe_callB call_isi rfl B.isi bb_isinstance (pa_cons (pe_ix ix_tup (pv 2) pe_int (fun _ _ => rfl)) (pa_cons (pe_tyN rfl B.tuple bt_tuple) pa_nil))))) (pw_or1 (pt_not (pt_chain op_lt op_lt pe_int (pe_callB call_lenD1 rfl B.len bb_len (pa_cons (pe_ix ix_tup (pv 2) pe_int (fun _ _ => rfl)) pa_nil)) pe_int)))))) (pss_one (ps_ret pe_bl)) pss_nil))))))
    (pss_cons (ps_for PassesOwn.never rfl (pi_tup (pv 0)) (pg_tup rfl (pgs_cons (pg_name (i := 3) sc_isp.nd rfl (Or.inl rfl)) (pgs_cons (pg_name (i := 4) sc_isp.nd rfl (Or.inl rfl)) (pgs_cons (pg_name (i := 5) sc_isp.nd rfl (Or.inr rfl)) pgs_nil)))) (pss_one (ps_if (pt_not (pt_val (pe_callB (cr_all rfl) rfl B.all bb_all (pa_cons (pe_lc (own := [("_law_at", 6), ("_law_row_here", 7)]) (g := gTup K 2 (gCons (gName 6) (gCons (gName 7) gNil))) (tt := tYes) rfl sc_isp.nd (pi_enumT rfl B.enum (pa_cons (pv 5) pa_nil)) (blkOk_by (N := NIsp) (sc := defScope s_isp) (by decide +kernel)) (fun _ _ _ _ _ => (pg_tup rfl (pgs_cons (pg_name (i := 6) sc_isp.nd rfl (Or.inl rfl)) (pgs_cons (pg_name (i := 7) sc_isp.nd rfl (Or.inl rfl)) pgs_nil)))) (fun _ _ _ _ _ => pts_nil) (fun _ _ _ _ _ => (pe_cd Dr Gr hr (pa_cons (pv 7) (pa_cons (pv 6) (pa_cons (pe_callB (r := rLen K) call_lenD1 rfl B.len bb_len (pa_cons (pv 5) pa_nil)) (pa_cons (pv 1) pa_nil))))))) pa_nil)))) (pss_one (ps_ret pe_bl)) pss_nil)))
    (pss_one (ps_ret pe_bl))))), ?_⟩
  have hsl : sizeLine = 16777216 := sizeLine_eq
  have q : ∀ (c : Bool) H', Ex H H' → c = progD d → Q (.bl c) H' := fun c H' x e => q _ H' x (by
    show Dq K b H' (.bl c) (.bool (progD d))
    rw [← e]
    exact .bl c)
  have t1 := et_n (et_b (ed_isi (K := K) (b := b) (σ := start NIsp [v]) (H := H) (T := "tuple") (.inr (.inr (.inr (.inl rfl)))) (ed_var (i := 0) rfl h1)))
  cases hs : isD "tuple" d with
  | false =>
    rw [hs] at t1
    refine g_ifT (et_or (b := false) t1 fun h => nomatch h) fun H1 x1 => q false H1 x1 ?_
    cases d <;> first | rfl | (simp [isD, dTy, tyIs] at hs)
  | true =>
  obtain ⟨ds, rfl⟩ := isD_tuple hs
  rw [hs] at t1
  have okx : ∀ e ∈ ds, okD 30 e = true := fun e he => ok_up (ok_items (n := 29) hok e he) (by omega)
  have bad : ∀ H', Ex H H' → progD (.tuple ds) = false → Q (.bl false) H' := fun H' x e => q false H' x e.symm
  have t2 := et_n (et_t (ed_chain (K := K) (b := b) (σ := start NIsp [v]) (H := H) (g := fun i j => decide (i < j)) (g' := fun i j => decide (i < j)) (ed_int (i := 0)) (ed_len (ed_var (i := 0) rfl h1) (.inr (.inr hs)) fun y e => by cases e) (ed_int (i := 9))))
  have tt := et_or t1 fun _ => t2
  have el : (!true || !(decide ((0 : Int) < ((lenD (.tuple ds) : Nat) : Int)) && decide (((lenD (.tuple ds) : Nat) : Int) < 9))) = !decide (1 ≤ ds.length ∧ ds.length ≤ 8) := by
    show (!(decide ((0 : Int) < ((ds.length : Nat) : Int)) && decide (((ds.length : Nat) : Int) < 9))) = _
    by_cases h : 1 ≤ ds.length ∧ ds.length ≤ 8
    · rw [decide_eq_true h, decide_eq_true (by omega), decide_eq_true (by omega)]; rfl
    · rw [decide_eq_false h]
      by_cases h1 : 0 < ds.length
      · rw [decide_eq_true (by omega), decide_eq_false (show ¬ ((ds.length : Nat) : Int) < 9 by omega)]; rfl
      · rw [decide_eq_false (by omega)]; rfl
  rw [el] at tt
  by_cases h18 : 1 ≤ ds.length ∧ ds.length ≤ 8
  case neg =>
    rw [decide_eq_false h18] at tt
    refine g_ifT tt fun H1 x1 => bad H1 x1 (Bool.eq_false_iff.mpr fun h => h18 ?_)
    have := prog_inv h
    exact ⟨this.1, this.2.1⟩
  rw [decide_eq_true h18] at tt
  refine g_ifF tt fun H0 x0 => ?_
  refine ⟨by decide, fun C hC => ?_⟩
  have hC0 : H C = none := fresh_back x0 hC
  have hCb : C ∉ b := kn.new hC0
  have x1 : Ex H (upd H0 C (.lst [])) := x0.trans (Ex.new hC)
  have eC : (upd H0 C (.lst [])) C = some (.lst []) := upd_same
  generalize upd H0 C (.lst []) = H1 at x1 eC
  have h11 : Dq K (C :: b) H1 v (.tuple ds) := dp_ex (hid_ex x1) _ _ (Dq.hide h1 hC0)
  have kn1 : Kn (C :: b) H1 := fun z hz => by
    rcases List.mem_cons.mp hz with rfl | hz
    · rw [eC]; intro q; cases q
    · exact kn.up x1 z hz
  have hCm : C ∈ C :: b := List.mem_cons_self
  cases h11 with
  | @tup pa xs _ s1 sN s2 =>
  have lxs : xs.length = ds.length := dps_len s2
  refine ⟨.ref pa, rfl, pa, rfl, ⟨xs, ex_t hid_le s1⟩, ?_⟩
  refine for_it (walk_tup (K := K) (xs := xs)) (fun i σ' H' => ∃ (ys : List Str) (u2 : Option V), σ' = [some (.ref pa), some (.ref C), u2, none, none, none, none, none] ∧ Ex H H' ∧ Kn (C :: b) H' ∧ DdAll K (hid (C :: b) H') xs ds ∧ SqT K (hid (C :: b) H') pa xs ∧ H' C = some (.lst (ys.map V.str)) ∧ (ds.take i).map fst = ys.map .str ∧ ys.all nameS = true ∧ ys.Nodup ∧ ∀ p ∈ ds.take i, headedD p = true ∧ rows1 (thd p) = true)
    ⟨[], none, rfl, x1, kn1, s2, s1, eC, rfl, rfl, .nil, fun p hp => by cases hp⟩ (fun i σ' H' _ ⟨_, _, _, _, _, _, h, _⟩ => ex_t hid_le h) ?_ ?_
  · intro i xv σ' H3 H3' hi ⟨ys, u2, es, x3, kn3, k1, k2, eC3, hy1, hy2, hy3, hp1⟩ ⟨eH, hx⟩
    subst es eH
    rw [lxs] at hi
    obtain ⟨d, hdi, dd⟩ := dps_at k1 hx
    have dm := List.mem_of_getElem? hdi
    have okd := okx d dm
    have knb : Kn b H3' := fun z hz => kn3 z (List.mem_cons_of_mem _ hz)
    have dB : Dq K b H3' xv d := dp_ex show_ex _ _ dd
    have dC : Dq K b H3' (.ref C) (.list (ys.map .str)) := .lst (.inl (.inl (by rw [hid_ne hCb]; exact eC3))) (strs_dps ys)
    have hyo : ys.all PyData.strOk = true := List.all_eq_true.mpr fun x hx => name_strOk (List.all_eq_true.mp hy2 x hx)
    show tSeq _ _ _ [some (.ref pa), some (.ref C), some xv, none, none, none, none, none] H3'
    have t1 := et_n (et_b (ed_isi (K := K) (b := b) (σ := [some (.ref pa), some (.ref C), some xv, none, none, none, none, none]) (H := H3') (T := "tuple") (.inr (.inr (.inr (.inl rfl)))) (ed_var (i := 2) rfl dB)))
    have nope : (headedD d && rows1 (thd d)) = false → progD (.tuple ds) = false := fun h => Bool.eq_false_iff.mpr fun hp => by
      have := (prog_inv hp).2.2.1 d dm
      rw [this.1, this.2.1] at h
      cases h
    cases hs1 : isD "tuple" d with
    | false =>
      rw [hs1] at t1
      refine g_ifT (et_or (b := false) t1 fun h => nomatch h) fun H4 x4 => bad H4 (x3.trans x4) (nope ?_)
      cases d <;> first | rfl | (simp [isD, dTy, tyIs] at hs1)
    | true =>
    obtain ⟨ps, rfl⟩ := isD_tuple hs1
    rw [hs1] at t1
    have t2 := et_t (ed_ne (K := K) (b := b) (σ := [some (.ref pa), some (.ref C), some xv, none, none, none, none, none]) (H := H3') (ed_len (ed_var (i := 2) rfl dB) (.inr (.inr hs1)) fun y e => by cases e) (ed_int (i := 3)) (sh_int _) (sh_int _))
    rw [eqv_int] at t2
    by_cases h3 : ps.length = 3
    case neg =>
      have e3 : (((lenD (.tuple ps) : Nat) : Int) == 3) = false := beq_eq_false_iff_ne.mpr (by show ¬ ((ps.length : Nat) : Int) = 3; omega)
      rw [e3] at t2
      have t12 := et_or (b := false) (u := tOr (tNot (tB (tCall (spP K (fun ds => ds.length = 1 ∧ ∀ d, ds = [d] → okD 30 d = true) (F1 nameD)) [] E0 (tCons (tOp (rIxT K) (tVar 2) (tC (.int 0))) tNil)))) (tTest (tOp (rInD K) (tOp (rIxT K) (tVar 2) (tC (.int 0))) (tVar 1)))) t2 fun h => nomatch h
      have tt := et_or t1 fun _ => t12
      refine g_ifT tt fun H4 x4 => bad H4 (x3.trans x4) (nope ?_)
      match ps, h3 with
      | [], _ => rfl
      | [_], _ => rfl
      | [_, _], _ => rfl
      | [_, _, _], h => exact absurd rfl h
      | _ :: _ :: _ :: _ :: _, _ => rfl
    have e3 : (((lenD (.tuple ps) : Nat) : Int) == 3) = true := beq_iff_eq.mpr (by show ((ps.length : Nat) : Int) = 3; omega)
    rw [e3] at t2
    obtain ⟨a, c, e, rfl⟩ : ∃ a c e, ps = [a, c, e] := by
      match ps, h3 with
      | [a, c, e], _ => exact ⟨a, c, e, rfl⟩
    have oka : okD 30 a = true := ok_up (ok_items (n := 29) okd a (by simp)) (by omega)
    have okc : okD 30 c = true := ok_up (ok_items (n := 29) okd c (by simp)) (by omega)
    have oke : okD 30 e = true := ok_up (ok_items (n := 29) okd e (by simp)) (by omega)
    have i0 := ed_ixT (K := K) (b := b) (σ := [some (.ref pa), some (.ref C), some xv, none, none, none, none, none]) (H := H3') (ed_var (i := 2) rfl dB) ed_int (atI0 a [c, e])
    have c3 := ed_call (K := K) (b := b) (pre := fun ds => ds.length = 1 ∧ ∀ d, ds = [d] → okD 30 d = true) (f := F1 nameD) (E := E0) knb (ea_cons i0 ea_nil) ⟨rfl, fun e' h' => by cases h'; exact oka⟩
    have c3 : ED K b _ _ H3' (.bool (nameD a)) := c3
    have t3 := et_n (et_b c3)
    have t4 := et_t (ed_inL (K := K) (b := b) i0 (ed_var (i := 1) rfl dC) (ok_shaped oka) (sh_strs hyo).2)
    have t34 := et_or t3 fun _ => t4
    have t24 := et_or t2 fun _ => t34
    have tt := et_or t1 fun _ => t24
    cases hna : nameD a with
    | false =>
      rw [show (!true || (!true || (!nameD a || inD a (ys.map .str)))) = true by rw [hna]; rfl] at tt
      refine g_ifT tt fun H4 x4 => bad H4 (x3.trans x4) (nope ?_)
      show ((nameD a && namesD c) && rows1 e) = false
      rw [hna]
      rfl
    | true =>
    obtain ⟨x, rfl⟩ : ∃ x, a = .str x := by
      cases a <;> first | exact ⟨_, rfl⟩ | cases hna
    have hxn : nameS x = true := hna
    have ein : (!true || (!true || (!nameD (.str x) || inD (.str x) (ys.map .str)))) = decide (x ∈ ys) := by
      rw [hna, inD_str]
      rfl
    rw [ein] at tt
    by_cases hxy : x ∈ ys
    case pos =>
      rw [decide_eq_true hxy] at tt
      refine g_ifT tt fun H4 x4 => bad H4 (x3.trans x4) (Bool.eq_false_iff.mpr fun hp => ?_)
      obtain ⟨_, _, hh, hu⟩ := prog_inv hp
      have hst : (ds.map fst).all (isD "str") = true := List.all_eq_true.mpr fun z hz => by
        obtain ⟨p, hp, rfl⟩ := List.mem_map.mp hz
        obtain ⟨x', cs', e', rfl, _⟩ := headed_of (hh p hp).1
        rfl
      have ey := map_strsOf hst
      generalize strsOf (ds.map fst) = zs at ey hu
      have nd : zs.Nodup := (uq_len_iff zs).mp (of_decide_eq_true hu)
      have ez : (ds.take i).map fst = (zs.take i).map .str := by rw [List.map_take, ← ey, List.map_take]
      rw [hy1] at ez
      have ez : ys = zs.take i := by
        have := congrArg strsOf ez
        rw [strsOf_map, strsOf_map] at this
        exact this
      have ezi : zs[i]? = some x := by
        have h1 : (ds.map fst)[i]? = some (.str x) := by rw [List.getElem?_map, hdi]; rfl
        rw [← ey, List.getElem?_map] at h1
        cases hz : zs[i]? with
        | none => rw [hz] at h1; cases h1
        | some y =>
          rw [hz] at h1
          have := Option.some.inj h1
          injection this with this
          rw [this]
      rw [ez] at hxy
      obtain ⟨j, hj⟩ := List.mem_iff_getElem?.mp hxy
      have hji : j < i := by
        have := (List.getElem?_eq_some_iff.mp hj).1
        rw [List.length_take] at this
        omega
      rw [List.getElem?_take_of_lt hji] at hj
      have := (List.getElem?_inj (List.getElem?_eq_some_iff.mp hj).1 nd).mp (hj.trans ezi.symm)
      omega
    rw [decide_eq_false hxy] at tt
    refine g_ifF tt fun H4 x4 => ?_
    -- called.append(..)
    have dB4 := Dq.up dB x4
    have eC4 := x4 _ _ eC3
    have i0' := ed_ixT (K := K) (b := b) (σ := [some (.ref pa), some (.ref C), some xv, none, none, none, none, none]) (H := H4) (ed_var (i := 2) rfl dB4) ed_int (atI0 (PyData.str x) [c, e])
    have lys : ys.length ≤ 8 := by
      have := congrArg List.length hy1
      rw [List.length_map, List.length_map, List.length_take] at this
      omega
    refine g_app (vs := ys.map V.str) (j := 1) rfl eC4 (by rw [List.length_map]; omega) i0' fun y H5 x5 hy => ?_
    have ey := dq_str hy
    subst ey
    have x35 := x4.trans x5
    have e6 : (upd H5 C (.lst (ys.map V.str ++ [.str x]))) C = some (.lst ((ys ++ [x]).map V.str)) := by rw [upd_same, List.map_append]; rfl
    have hh6 : hid (C :: b) (upd H5 C (.lst (ys.map V.str ++ [.str x]))) = hid (C :: b) H5 := hid_upd hCm
    have x6 : Ex H (upd H5 C (.lst (ys.map V.str ++ [.str x]))) := Ex.mut (x3.trans x35) hC0
    have kn6 : Kn (C :: b) (upd H5 C (.lst (ys.map V.str ++ [.str x]))) := fun z hz => by
      by_cases e : z = C
      · rw [e, upd_same]; intro q; cases q
      · rw [upd_ne e]; exact kn3.up x35 z hz
    generalize upd H5 C (.lst (ys.map V.str ++ [.str x])) = H6 at e6 hh6 x6 kn6
    have k16 : DdAll K (hid (C :: b) H6) xs ds := by rw [hh6]; exact dps_ex (hid_ex x35) _ _ k1
    have k26 : SqT K (hid (C :: b) H6) pa xs := by rw [hh6]; exact ex_t (hid_ex x35) k2
    have dd6 : Dd K (hid (C :: b) H6) xv (.tuple [.str x, c, e]) := by rw [hh6]; exact dp_ex (hid_ex x35) _ _ dd
    have dB6 : Dq K b H6 xv (.tuple [.str x, c, e]) := dp_ex show_ex _ _ dd6
    have knb6 : Kn b H6 := fun z hz => kn6 z (List.mem_cons_of_mem _ hz)
    have i1 : ∀ {H'}, Ex H6 H' → ED K b (tOp (rIxT K) (tVar 2) (tC (.int 1))) [some (.ref pa), some (.ref C), some xv, none, none, none, none, none] H' c := fun {H'} x' => ed_ixT (ed_var (i := 2) rfl (Dq.up dB6 x')) ed_int (atI1 (PyData.str x) c [e])
    have i2 : ∀ {H'}, Ex H6 H' → ED K b (tOp (rIxT K) (tVar 2) (tC (.int 2))) [some (.ref pa), some (.ref C), some xv, none, none, none, none, none] H' e := fun {H'} x' => ed_ixT (ed_var (i := 2) rfl (Dq.up dB6 x')) ed_int (atI_nat (j := 2) rfl)
    have t5 := et_n (et_b (ed_isi (K := K) (b := b) (T := "tuple") (.inr (.inr (.inr (.inl rfl)))) (i1 (Ex.refl H6))))
    have nope2 : (namesD c && rows1 e) = false → progD (.tuple ds) = false := fun h => nope (by
      show ((nameD (.str x) && namesD c) && rows1 e) = false
      rw [hna, Bool.true_and]
      exact h)
    cases hs2 : isD "tuple" c with
    | false =>
      rw [hs2] at t5
      refine g_ifT (et_or (b := false) t5 fun h => nomatch h) fun H7 x7 => bad H7 (x6.trans x7) (nope2 ?_)
      cases c <;> first | rfl | (simp [isD, dTy, tyIs] at hs2)
    | true =>
    obtain ⟨cs, rfl⟩ := isD_tuple hs2
    rw [hs2] at t5
    have t6 := et_t (ed_gt (K := K) (b := b) (ed_len (i1 (Ex.refl H6)) (.inr (.inr hs2)) fun y e => by cases e) (ed_int (i := 3)))
    have lcs : cs.length ≤ 1000 := ok_len okc
    have t7 := et_n (et_b (ed_allT (K := K) (b := b) (σ := [some (.ref pa), some (.ref C), some xv, none, none, none, none, none]) (H := H6) (k := 3) (g := nameD) knb6 (i1 (Ex.refl H6)) lcs fun z v' H' hz x' hv => ed_call (E := E0) (pre := fun ds => ds.length = 1 ∧ ∀ d, ds = [d] → okD 30 d = true) (f := F1 nameD) (knb6.up x') (ea_cons (ed_var (i := 3) rfl hv) ea_nil) ⟨rfl, fun e' h' => by cases h'; exact ok_up (ok_items (n := 29) okc z hz) (by omega)⟩))
    have t67 := et_or t6 fun _ => t7
    have tt2 := et_or t5 fun _ => t67
    have e67 : (!true || (decide ((3 : Int) < ((lenD (.tuple cs) : Nat) : Int)) || !cs.all nameD)) = !(decide (cs.length ≤ 3) && cs.all nameD) := by
      show (decide ((3 : Int) < ((cs.length : Nat) : Int)) || !cs.all nameD) = _
      by_cases h : cs.length ≤ 3
      · rw [decide_eq_true h, decide_eq_false (by omega)]; cases cs.all nameD <;> rfl
      · rw [decide_eq_false h, decide_eq_true (by omega)]; rfl
    rw [e67] at tt2
    cases hcn : (decide (cs.length ≤ 3) && cs.all nameD) with
    | false =>
      rw [hcn] at tt2
      refine g_ifT tt2 fun H7 x7 => bad H7 (x6.trans x7) (nope2 ?_)
      show ((decide (cs.length ≤ 3) && (cs.all nameD && unlikeS (strsOf cs))) && rows1 e) = false
      rw [← Bool.and_assoc, hcn]
      rfl
    | true =>
    rw [hcn] at tt2
    refine g_ifF tt2 fun H7 x7 => ?_
    rw [Bool.and_eq_true] at hcn
    obtain ⟨zs, ecs⟩ : ∃ zs : List Str, cs = zs.map .str := by
      have hst : cs.all (isD "str") = true := List.all_eq_true.mpr fun z hz => by
        have := List.all_eq_true.mp hcn.2 z hz
        cases z <;> first | rfl | cases this
      exact ⟨strsOf cs, (map_strsOf hst).symm⟩
    subst ecs
    have t8 := et_t (ed_lt (K := K) (b := b) (ed_lenSet (P := P) (w := w) (i1 x7) (.inr rfl) (by rw [List.length_map] at lcs; exact lcs)) (ed_len (i1 x7) (.inr (.inr rfl)) fun y e => by cases e))
    have e8 : decide ((((uq zs).length : Nat) : Int) < ((lenD (.tuple (zs.map .str)) : Nat) : Int)) = !unlikeS zs := by
      have el : lenD (.tuple (zs.map PyData.str)) = zs.length := List.length_map _
      rw [el]
      unfold unlikeS
      have hle := uq_length_le zs
      by_cases h : (uq zs).length = zs.length
      · rw [decide_eq_true h, decide_eq_false (by omega)]; rfl
      · rw [decide_eq_false h, decide_eq_true (by omega)]; rfl
    rw [e8] at t8
    have t9 := et_n (et_b (ed_isi (K := K) (b := b) (T := "tuple") (.inr (.inr (.inr (.inl rfl)))) (i2 x7)))
    have ncs : namesD (.tuple (zs.map .str)) = unlikeS zs := by
      show (decide ((zs.map PyData.str).length ≤ 3) && ((zs.map PyData.str).all nameD && unlikeS (strsOf (zs.map .str)))) = _
      rw [hcn.1, hcn.2, strsOf_map]
      rfl
    -- the last test
    have last : ∀ (c : Bool) {tt : TT}, EvT tt [some (.ref pa), some (.ref C), some xv, none, none, none, none, none] H7 c → c = !(unlikeS zs && rows1 e) →
        tIfS tt (tRet (tC (.bl false))) tNext { nx := fun σ' H' => ∃ (ys : List Str) (u2 : Option V), σ' = [some (.ref pa), some (.ref C), u2, none, none, none, none, none] ∧ Ex H H' ∧ Kn (C :: b) H' ∧ DdAll K (hid (C :: b) H') xs ds ∧ SqT K (hid (C :: b) H') pa xs ∧ H' C = some (.lst (ys.map V.str)) ∧ (ds.take (i + 1)).map fst = ys.map .str ∧ ys.all nameS = true ∧ ys.Nodup ∧ ∀ p ∈ ds.take (i + 1), headedD p = true ∧ rows1 (thd p) = true, rt := Q } [some (.ref pa), some (.ref C), some xv, none, none, none, none, none] H7 := fun cc tt ht ec => by
      refine ht H7 (Ex.refl H7) _ fun H8 x8 => ?_
      cases hcc : (unlikeS zs && rows1 e) with
      | false =>
        rw [hcc] at ec
        rw [ec]
        show (if (!false) = true then _ else _)
        rw [show (!false) = true from rfl, if_pos rfl]
        exact bad H8 ((x6.trans x7).trans x8) (nope2 (by rw [ncs]; exact hcc))
      | true =>
        rw [hcc] at ec
        rw [ec]
        show (if (!true) = true then _ else _)
        rw [show (!true) = false from rfl, if_neg Bool.false_ne_true]
        rw [Bool.and_eq_true] at hcc
        have x68 := x7.trans x8
        refine ⟨ys ++ [x], _, rfl, x6.trans x68, kn6.up x68, dps_ex (hid_ex x68) _ _ k16, ex_t (hid_ex x68) k26, x68 _ _ e6, ?_, ?_, ?_, ?_⟩
        · rw [List.take_add_one, hdi, List.map_append, hy1, List.map_append]
          rfl
        · rw [List.all_append, hy2, Bool.true_and]
          show (nameS x && true) = true
          rw [hxn]
          rfl
        · rw [List.nodup_append]
          refine ⟨hy3, by simp, fun z hz z' hz' e => ?_⟩
          rw [List.mem_singleton.mp hz'] at e
          rw [e] at hz
          exact hxy hz
        · intro p hp
          rw [List.take_add_one, hdi] at hp
          rcases List.mem_append.mp hp with hp | hp
          · exact hp1 p hp
          · rw [List.mem_singleton.mp hp]
            refine ⟨?_, hcc.2⟩
            show (nameD (.str x) && namesD (.tuple (zs.map .str))) = true
            rw [hna, ncs, hcc.1]
            rfl
    cases hs3 : isD "tuple" e with
    | false =>
      rw [hs3] at t9
      have tz := et_or t8 fun _ => et_or (b := false) (u := tNot (tTest (tChain (rI0 fun i j => .bl (decide (i < j))) (rI0 fun i j => .bl (decide (i < j))) (tC (.int 0)) (tCB (rLen K) (tCons (tOp (rIxT K) (tVar 2) (tC (.int 2))) tNil)) (tC (.int 61))))) t9 fun h => nomatch h
      refine last _ tz ?_
      have : rows1 e = false := by cases e <;> first | rfl | (simp [isD, dTy, tyIs] at hs3)
      rw [this, Bool.and_false]
      cases unlikeS zs <;> rfl
    | true =>
      obtain ⟨rs, rfl⟩ := isD_tuple hs3
      rw [hs3] at t9
      have t10 := et_n (et_t (ed_chain (K := K) (b := b) (g := fun i j => decide (i < j)) (g' := fun i j => decide (i < j)) (ed_int (i := 0)) (ed_len (i2 x7) (.inr (.inr rfl)) fun y e => by cases e) (ed_int (i := 61))))
      have t910 := et_or t9 fun _ => t10
      have tz := et_or t8 fun _ => t910
      refine last _ tz ?_
      show (!unlikeS zs || (!true || !(decide ((0 : Int) < ((rs.length : Nat) : Int)) && decide (((rs.length : Nat) : Int) < 61)))) = !(unlikeS zs && (decide (1 ≤ rs.length) && decide (rs.length ≤ 60)))
      have e1 : decide ((0 : Int) < ((rs.length : Nat) : Int)) = decide (1 ≤ rs.length) := by
        by_cases h : 1 ≤ rs.length
        · rw [decide_eq_true h, decide_eq_true (by omega)]
        · rw [decide_eq_false h, decide_eq_false (by omega)]
      have e2 : decide (((rs.length : Nat) : Int) < 61) = decide (rs.length ≤ 60) := by
        by_cases h : rs.length ≤ 60
        · rw [decide_eq_true h, decide_eq_true (by omega)]
        · rw [decide_eq_false h, decide_eq_false (by omega)]
      rw [e1, e2]
      cases unlikeS zs <;> cases decide (1 ≤ rs.length) <;> cases decide (rs.length ≤ 60) <;> rfl
  · intro σ' H2 ⟨ys, u2, es, x2, kn2, k1, k2, eC2, hy1, hy2, hy3, hp1⟩
    subst es
    dsimp only
    rw [lxs, List.take_of_length_le (Nat.le_refl _)] at hy1 hp1
    have key := prog_mk h18.1 h18.2 hy1 hy3 hp1
    refine ⟨.ref pa, rfl, pa, rfl, ⟨xs, ex_t hid_le k2⟩, ?_⟩
    have kb2 : Kn b H2 := fun z hz => kn2 z (List.mem_cons_of_mem _ hz)
    refine for_it (walk_tup (K := K) (xs := xs)) (fun i σ' H' => ∃ (u2 u3 u4 u5 : Option V), σ' = [some (.ref pa), some (.ref C), u2, u3, u4, u5, none, none] ∧ Ex H2 H' ∧ ∀ p ∈ ds.take i, rows2 (thd p) ys = true)
      ⟨u2, none, none, none, rfl, Ex.refl H2, fun p hp => by cases hp⟩ (fun i σ' H' _ ⟨_, _, _, _, _, x, _⟩ => ex_t x (ex_t hid_le k2)) ?_ ?_
    · intro i xv σ' H3 H3' hi ⟨u2, u3, u4, u5, es, x3, hr3⟩ ⟨eH, hx⟩
      subst es eH
      rw [lxs] at hi
      obtain ⟨d, hdi, dd⟩ := dps_at k1 hx
      have dm := List.mem_of_getElem? hdi
      have okd := okx d dm
      obtain ⟨x, cs, e, ed, _, _⟩ := headed_of (hp1 d dm).1
      subst ed
      have hr1 : rows1 e = true := (hp1 _ dm).2
      obtain ⟨rs, rfl⟩ : ∃ rs, e = .tuple rs := by
        cases e <;> first | exact ⟨_, rfl⟩ | cases hr1
      have ddb : Dq K b H2 xv (.tuple [.str x, .tuple cs, .tuple rs]) := dp_ex show_ex _ _ dd
      have dd3 := Dq.up ddb x3
      cases dd3 with
      | @tup pp vs _ f1 fN f2 =>
      cases f2 with
      | @cons v1 _ _ _ a1 f2 =>
      cases f2 with
      | @cons v2 _ _ _ a2 f2 =>
      cases f2 with
      | @cons v3 _ _ _ a3 f2 =>
      cases f2
      refine ⟨pp, _, rfl, ex_t hid_le f1, rfl, v1, _, rfl, v2, _, rfl, v3, _, rfl, rfl, ?_⟩
      have oke : okD 30 (.tuple rs) = true := ok_up (ok_items (n := 29) okd _ (by simp)) (by omega)
      have lrs := ok_len oke
      have kb3 := kb2.up x3
      have dC : Dq K b H3' (.ref C) (.list (ys.map .str)) := .lst (.inl (.inl (by rw [hid_ne hCb]; exact x3 _ _ eC2))) (strs_dps ys)
      show tIfS _ _ _ _ [some (.ref pa), some (.ref C), u2, some v1, some v2, some v3, none, none] H3'
      have lc := ed_lcE (K := K) (b := b) (σ := [some (.ref pa), some (.ref C), u2, some v1, some v2, some v3, none, none]) (H := H3') (k1 := 6) (k2 := 7) (te := tCall (spP K RowPre2 rowF) [] E0 (tCons (tVar 7) (tCons (tVar 6) (tCons (tCB (rLen K) (tCons (tVar 5) tNil)) (tCons (tVar 1) tNil))))) (f := fun i d => .bool (rowD d i rs.length ys)) kb3 (ed_var (i := 5) rfl a3) (Nat.lt_of_le_of_lt lrs (by decide)) (fun _ _ => rfl)
        (fun i d v' H4 hd' x4 hv => (ed_call (kb3.up x4) (ea_cons (ed_var (i := 7) rfl hv) (ea_cons (ed_var (i := 6) (d := .int (i : Nat)) rfl (.int _)) (ea_cons (ed_len (ed_var (i := 5) rfl (Dq.up a3 x4)) (.inr (.inr rfl)) fun y e => by cases e) (ea_cons (ed_var (i := 1) rfl (Dq.up dC x4)) ea_nil))))
          (by exact ⟨rfl, fun d' i' m' c' h' => by cases h'; exact ⟨ok_up (ok_items (n := 29) oke d (List.mem_of_getElem? hd')) (by omega), ⟨_, rfl⟩, ⟨_, rfl⟩, ys, hy2, rfl⟩⟩)).to (by
            show PyData.bool (rowD d i rs.length (strsOf (ys.map .str))) = _
            rw [strsOf_map])) (fun _ _ _ => rfl)
      have al := ed_all (bs := (List.range rs.length).map fun i => rowD (rs.getD i .none) i rs.length ys) (lc.to (by rw [List.map_map]; rfl))
      rw [all_map] at al
      have ta := et_n (et_b al)
      refine ta H3' (Ex.refl H3') _ fun H4 x4 => ?_
      cases hall : ((List.range rs.length).all fun i => rowD (rs.getD i .none) i rs.length ys) with
      | false =>
        show (if (!false) = true then _ else _)
        rw [show (!false) = true from rfl, if_pos rfl]
        refine bad H4 (x2.trans (x3.trans x4)) ?_
        rw [key]
        refine Bool.eq_false_iff.mpr fun h => ?_
        have : rows2 (.tuple rs) ys = true := List.all_eq_true.mp h _ dm
        have : ((List.range rs.length).all fun i => rowD (rs.getD i .none) i rs.length ys) = true := this
        rw [hall] at this
        cases this
      | true =>
        show (if (!true) = true then _ else _)
        rw [show (!true) = false from rfl, if_neg Bool.false_ne_true]
        refine ⟨_, _, _, _, rfl, x3.trans x4, fun p hp => ?_⟩
        rw [List.take_add_one, hdi] at hp
        rcases List.mem_append.mp hp with hp | hp
        · exact hr3 p hp
        · rw [List.mem_singleton.mp hp]
          exact hall
    · intro σ' H3 ⟨u2, u3, u4, u5, es, x3, hr3⟩
      subst es
      dsimp only
      rw [lxs, List.take_of_length_le (Nat.le_refl _)] at hr3
      exact q true H3 (x2.trans x3) (by rw [key]; exact (List.all_eq_true.mpr hr3).symm)
end
end Wr

set_option Elab.async false
set_option linter.all false
set_option maxRecDepth 100000
set_option maxHeartbeats 4000000
namespace Wr
open PySem PySem.Spec PyProof.Rows L2 Evl TL
/-! ### how great things are -/
def okM (L k : Nat) : Nat → PyData → Bool
  | _, .none => true
  | _, .bool _ => true
  | _, .int i => decide (i.natAbs < 10 ^ 40 + k * 10 ^ 13)
  | _, .str x => (tl x).all (fun c => decide (c < 128)) && decide ((tl x).length ≤ 50 + k)
  | n + 1, .list ds => decide (ds.length ≤ L) && ds.all (okM L k n)
  | n + 1, .tuple ds => decide (ds.length ≤ L) && ds.all (okM L k n)
  | _, _ => false
theorem okM_int {L k n : Nat} {i : Int} : okM L k n (.int i) = true ↔ i.natAbs < 10 ^ 40 + k * 10 ^ 13 := by
  have : okM L k n (.int i) = decide (i.natAbs < 10 ^ 40 + k * 10 ^ 13) := by cases n <;> rfl
  rw [this]
  exact decide_eq_true_iff
theorem okM_str {L k n : Nat} {x : Str} : okM L k n (.str x) = true ↔ (∀ c ∈ tl x, c < 128) ∧ (tl x).length ≤ 50 + k := by
  have : okM L k n (.str x) = ((tl x).all (fun c => decide (c < 128)) && decide ((tl x).length ≤ 50 + k)) := by cases n <;> rfl
  rw [this, Bool.and_eq_true, List.all_eq_true]
  refine ⟨fun h => ⟨fun c hc => of_decide_eq_true (h.1 c hc), of_decide_eq_true h.2⟩, fun h => ⟨fun c hc => decide_eq_true (h.1 c hc), decide_eq_true h.2⟩⟩
theorem okM_tup {L k n : Nat} {ds : List PyData} : okM L k (n + 1) (.tuple ds) = true ↔ ds.length ≤ L ∧ ∀ d ∈ ds, okM L k n d = true := by
  show (decide (ds.length ≤ L) && ds.all (okM L k n)) = true ↔ _
  rw [Bool.and_eq_true, List.all_eq_true]
  exact ⟨fun h => ⟨of_decide_eq_true h.1, h.2⟩, fun h => ⟨decide_eq_true h.1, h.2⟩⟩
theorem okM_lst {L k n : Nat} {ds : List PyData} : okM L k (n + 1) (.list ds) = true ↔ ds.length ≤ L ∧ ∀ d ∈ ds, okM L k n d = true := okM_tup
theorem okM_t0 {L k n : Nat} {ds : List PyData} (h : okM L k n (.tuple ds) = true) : ∃ m, n = m + 1 := by
  cases n with
  | zero => cases h
  | succ m => exact ⟨m, rfl⟩
theorem okM_up {L L' k k' : Nat} (hL : L ≤ L') (hk : k ≤ k') : ∀ (n m : Nat) (d : PyData), n ≤ m → okM L k n d = true → okM L' k' m d = true
  | _, 0, .none, _, _ => rfl
  | _, _ + 1, .none, _, _ => rfl
  | _, 0, .bool _, _, _ => rfl
  | _, _ + 1, .bool _, _, _ => rfl
  | n, m, .int i, _, h => by
    have h := okM_int.mp h
    have : k * 10 ^ 13 ≤ k' * 10 ^ 13 := Nat.mul_le_mul hk (Nat.le_refl _)
    exact okM_int.mpr (Nat.lt_of_lt_of_le h (Nat.add_le_add_left this _))
  | n, m, .str x, _, h => by
    have h := okM_str.mp h
    exact okM_str.mpr ⟨h.1, by omega⟩
  | 0, _, .list ds, _, h => by cases h
  | 0, _, .tuple ds, _, h => by cases h
  | 0, _, .dict _, _, h => by cases h
  | _ + 1, _, .dict _, _, h => by cases h
  | n + 1, 0, .list ds, hm, h => by omega
  | n + 1, 0, .tuple ds, hm, h => by omega
  | n + 1, m + 1, .list ds, hm, h => by
    have h := okM_lst.mp h
    exact okM_lst.mpr ⟨by omega, fun d hd => okM_up hL hk n m d (by omega) (h.2 d hd)⟩
  | n + 1, m + 1, .tuple ds, hm, h => by
    have h := okM_tup.mp h
    exact okM_tup.mpr ⟨by omega, fun d hd => okM_up hL hk n m d (by omega) (h.2 d hd)⟩
theorem okM_ok {L k : Nat} (hL : L ≤ 1000) (hk : k ≤ 100) : ∀ (n : Nat) (d : PyData), okM L k n d = true → okD n d = true
  | 0, .none, _ => rfl
  | 0, .bool _, _ => rfl
  | _ + 1, .none, _ => rfl
  | _ + 1, .bool _, _ => rfl
  | n, .int i, h => by
    have h := okM_int.mp h
    have h1 : k * 10 ^ 13 ≤ 100 * 10 ^ 13 := Nat.mul_le_mul hk (Nat.le_refl _)
    have h2 : (10 ^ 40 + 100 * 10 ^ 13 : Nat) < 10 ^ 45 := by decide
    have e : decide (i.natAbs < 10 ^ 45) = true := decide_eq_true (by omega)
    cases n <;> exact e
  | n, .str x, h => by
    have h := okM_str.mp h
    have e : (PyData.strOk x && decide (x.length ≤ 1000)) = true := by
      rw [strOk_of fun c hc => Nat.lt_trans (h.1 c hc) (by decide), decide_eq_true (by rw [len_tl]; omega)]
      rfl
    cases n <;> exact e
  | 0, .list ds, h => by cases h
  | 0, .tuple ds, h => by cases h
  | 0, .dict _, h => by cases h
  | _ + 1, .dict _, h => by cases h
  | n + 1, .list ds, h => by
    have h := okM_lst.mp h
    show (decide (ds.length ≤ 1000) && ds.all (okD n)) = true
    rw [decide_eq_true (by omega), Bool.true_and]
    exact List.all_eq_true.mpr fun d hd => okM_ok hL hk n d (h.2 d hd)
  | n + 1, .tuple ds, h => by
    have h := okM_tup.mp h
    show (decide (ds.length ≤ 1000) && ds.all (okD n)) = true
    rw [decide_eq_true (by omega), Bool.true_and]
    exact List.all_eq_true.mpr fun d hd => okM_ok hL hk n d (h.2 d hd)
/-- what comes of a thing -/
def OtO (L k n : Nat) (d d' : PyData) : Prop := okM (2 * L + 3) (k + 1) (n + 4) d' = true ∧ szD d' ≤ 2 * szD d + 10000
def OddM (d : PyData) : Prop := okM 3 0 3 d = true ∧ szD d ≤ 8000
theorem odd_ot {L k n : Nat} {d o : PyData} (h : OddM o) : OtO L k n d o := ⟨okM_up (by omega) (by omega) 3 (n + 4) o (by omega) h.1, by have := h.2; omega⟩
theorem szAll_cut (ds : List PyData) (i : Nat) : szAll (ds.take i) + szAll (ds.drop i) = szAll ds := by
  rw [← szAll_app, List.take_append_drop]
theorem szAll_drop_le (ds : List PyData) (i : Nat) : szAll (ds.drop i) ≤ szAll ds := by
  have := szAll_cut ds i
  omega
theorem szAll_take_le (ds : List PyData) (i : Nat) : szAll (ds.take i) ≤ szAll ds := by
  have := szAll_cut ds i
  omega
theorem szAll_one (d : PyData) : szAll [d] = szD d + 2 := by simp only [szAll, Nat.add_zero]
theorem szAll_at {ds : List PyData} {i : Nat} (h : i < ds.length) : szAll (ds.take i) + (szD ds[i] + 2) + szAll (ds.drop (i + 1)) = szAll ds := by
  have h1 := szAll_cut ds i
  rw [List.drop_eq_getElem_cons h] at h1
  simp only [szAll] at h1
  omega
theorem szAll_rev : ∀ ds : List PyData, szAll ds.reverse = szAll ds
  | [] => rfl
  | d :: ds => by
    rw [List.reverse_cons, szAll_app, szAll_rev ds, szAll_one]
    simp only [szAll]
    omega
theorem cutD_mem {ds : List PyData} {lo hi : Option Int} {d : PyData} (h : d ∈ cutD ds lo hi) : d ∈ ds := List.mem_of_mem_drop (List.mem_of_mem_take h)
theorem cutD_len (ds : List PyData) (lo hi : Option Int) : (cutD ds lo hi).length ≤ ds.length := by
  unfold cutD
  rw [List.length_take, List.length_drop]
  omega
theorem cutD_sz (ds : List PyData) (lo hi : Option Int) : szAll (cutD ds lo hi) ≤ szAll ds := by
  unfold cutD
  exact Nat.le_trans (szAll_take_le _ _) (szAll_drop_le _ _)
/-- a tuple of things of a tuple -/
theorem ot_tup {L k n : Nat} {ds es : List PyData} (h : okM L k n (.tuple ds) = true) (hl : es.length ≤ 2 * ds.length) (hm : ∀ e ∈ es, e ∈ ds) (hz : szAll es ≤ 2 * szAll ds) : OtO L k n (.tuple ds) (.tuple es) ∧ OtO L k n (.tuple ds) (.list es) := by
  obtain ⟨m, rfl⟩ := okM_t0 h
  have h' := okM_tup.mp h
  have q : es.length ≤ 2 * L + 3 ∧ ∀ e ∈ es, okM (2 * L + 3) (k + 1) (m + 4) e = true := ⟨by omega, fun e he => okM_up (by omega) (by omega) m (m + 4) e (by omega) (h'.2 e (hm e he))⟩
  refine ⟨⟨okM_tup.mpr q, ?_⟩, okM_lst.mpr q, ?_⟩
  · rw [szD_tup, szD_tup]; omega
  · rw [szD_tup, szD_lst]; omega
theorem ot_ins {L k n : Nat} {ds : List PyData} {o : PyData} (j : Nat) (h : okM L k n (.tuple ds) = true) (ho : OddM o) : OtO L k n (.tuple ds) (.tuple ((ds.take j ++ [o]) ++ ds.drop j)) := by
  obtain ⟨m, rfl⟩ := okM_t0 h
  have h' := okM_tup.mp h
  refine ⟨okM_tup.mpr ⟨?_, fun e he => ?_⟩, ?_⟩
  · rw [List.length_append, List.length_append, List.length_take, List.length_drop, List.length_singleton]
    omega
  · rcases List.mem_append.mp he with he | he
    · rcases List.mem_append.mp he with he | he
      · exact okM_up (by omega) (by omega) m (m + 4) e (by omega) (h'.2 e (List.mem_of_mem_take he))
      · rw [List.mem_singleton.mp he]
        exact okM_up (by omega) (by omega) 3 (m + 4) o (by omega) ho.1
    · exact okM_up (by omega) (by omega) m (m + 4) e (by omega) (h'.2 e (List.mem_of_mem_drop he))
  · rw [szD_tup, szD_tup, szAll_app, szAll_app, szAll_one]
    have h1 := szAll_cut ds j
    have h2 := ho.2
    omega
theorem ot_in {L k n : Nat} {ds : List PyData} {o : PyData} {j : Nat} (hj : j < ds.length) (h : okM L k (n + 1) (.tuple ds) = true) (ho : OtO L k n ds[j] o) : OtO L k (n + 1) (.tuple ds) (.tuple ((ds.take j ++ [o]) ++ ds.drop (j + 1))) := by
  have h' := okM_tup.mp h
  refine ⟨okM_tup.mpr ⟨?_, fun e he => ?_⟩, ?_⟩
  · rw [List.length_append, List.length_append, List.length_take, List.length_drop, List.length_singleton]
    omega
  · rcases List.mem_append.mp he with he | he
    · rcases List.mem_append.mp he with he | he
      · exact okM_up (by omega) (by omega) n (n + 4) e (by omega) (h'.2 e (List.mem_of_mem_take he))
      · rw [List.mem_singleton.mp he]
        exact ho.1
    · exact okM_up (by omega) (by omega) n (n + 4) e (by omega) (h'.2 e (List.mem_of_mem_drop he))
  · rw [szD_tup, szD_tup, szAll_app, szAll_app, szAll_one]
    have h1 := szAll_at hj
    have h2 := ho.2
    omega
theorem ot_int {L k n : Nat} {i j : Int} {d : PyData} (h : i.natAbs < 10 ^ 40 + k * 10 ^ 13) (hj : j.natAbs ≤ 10 ^ 12) (hd : szD d ≥ 0) : OtO L k n d (.int (i + j)) := by
  refine ⟨okM_int.mpr ?_, by rw [szD_int]; omega⟩
  have : (k + 1) * 10 ^ 13 = k * 10 ^ 13 + 10 ^ 13 := by rw [Nat.add_mul, Nat.one_mul]
  omega
theorem ot_str {L k n : Nat} {x y : Str} (h : okM L k n (.str x) = true) (hc : ∀ c ∈ tl y, c < 128) (hl : (tl y).length ≤ (tl x).length + 1) : OtO L k n (.str x) (.str y) := by
  have h' := okM_str.mp h
  refine ⟨okM_str.mpr ⟨hc, by omega⟩, ?_⟩
  rw [szD_str, szD_str, len_tl, len_tl]
  omega
theorem up_tl {x : Str} (h : ∀ c ∈ tl x, c < 128) : tl (Txt.upper x) = (tl x).map up1 := by
  rw [upper_ascii (x := x) (fun c hc => h c hc)]
  show (x.cps.map up1).toList = _
  rw [Array.toList_map]
/-! ### int or truth, and an int -/
def rAddIB : R2 := fun x y H Q => ∃ j, y = .int j ∧ ((∃ i, x = .int i ∧ Q (.int (i + j)) H) ∨ ∃ c, x = .bl c ∧ Q (.int ((if c = true then (1 : Int) else 0) + j)) H)
theorem op_addIB {X : Cx} : OpR X (binaryOp .Add) rAddIB := by
  intro pins s σ H x y v u Q I rx ry h
  obtain ⟨j, rfl, h⟩ := h
  rcases h with ⟨i, rfl, q⟩ | ⟨c, rfl, q⟩
  · exact op_add pins s σ H _ _ v u Q I rx ry ⟨i, j, rfl, rfl, q⟩
  · cases rx
    obtain ⟨t, rfl⟩ := ry
    exact PySem.IntBool.add_bool_int ⟨.int ((if c = true then (1 : Int) else 0) + j), H, I.tok _, ⟨_, rfl⟩, q⟩
abbrev s_odd : Stmt := topS 61
abbrev s_pt : Stmt := topS 62
abbrev s_ot : Stmt := topS 63
abbrev NOd : List Str := ["_law_bag_here", "_law_some"]
abbrev NPt : List Str := ["_law_bag_here", "_law_thing", "_law_way", "_law_at", "_law_some"]
abbrev NOt : List Str := ["_law_bag_here", "_law_thing", "_law_at"]
abbrev POt : List Str := ["_law_bag_here", "_law_thing"]
theorem sc_odd : FnScope NOd ["_law_bag_here"] (defScope s_odd) := ⟨rfl, rfl, rfl, by decide +kernel, rfl, by decide +kernel, by decide +kernel⟩
theorem sc_pt : FnScope NPt POt (defScope s_pt) := ⟨rfl, rfl, rfl, by decide +kernel, rfl, by decide +kernel, by decide +kernel⟩
theorem sc_ot : FnScope NOt POt (defScope s_ot) := ⟨rfl, rfl, rfl, by decide +kernel, rfl, by decide +kernel, by decide +kernel⟩
def odd1 : List PyData := [.none, .bool true, .bool false, .int 0, .int (-1), .int 1, .int 2, .int 60, .int 1000000000000, .int 1000000000001, .int (-1000000000001), .int 1000000000000000000000000000000000000000, .str "", .str "a", .str "A", .str "add"]
def odd2 : List PyData := [.str "abcdefghi", .str "put", .str "call", .str "go", .str "try", .str "if", .str "get", .tuple [], .list [], .tuple [.str "add"], .tuple [.str "put", .int 1], .tuple [.str "go", .int 0], .str "a b"]
def odd3 : List PyData := [.tuple [.str "try", .int 1], .tuple [.str "add", .int 1], .tuple [.str "put", .str "a"], .list [.tuple [.str "add"]], .tuple [.str "a", .tuple [], .tuple [.tuple [.str "add"]]], .tuple [.str "back", .none], .tuple [.str "swap"]]
theorem odd_all {z : PyData} (h : z ∈ (odd1 ++ odd2) ++ odd3) : OddM z := by
  have q : (((odd1 ++ odd2) ++ odd3).all fun z => okM 3 0 3 z && decide (szD z ≤ 8000)) = true := by decide +kernel
  have := List.all_eq_true.mp q z h
  rw [Bool.and_eq_true] at this
  exact ⟨this.1, of_decide_eq_true this.2⟩
section
variable {P : Program} {w : World} {K : PySem.W.Frag} {mg : Str → Option Value} {base : Heap} {f g g2 g3 : Addr} {fd gd gd2 gd3 : FuncData}
theorem ok_odd (D : Def K mg "_law_odd" s_odd ["_law_bag_here"] f fd) (Dt : Def K mg "_law_take" s_take ["_law_bag_here", "_law_many"] g gd) (B : Blt mg) : FnOk P w K mg base CX0 2 f fd ["_law_bag_here"] (spG K 0 (· = []) fun _ d => OddM d) := by
  refine D.F.ok sc_odd (fun vs H Q E h => spG_len (k := 0) (fun ds e => by rw [e]; rfl) h) (fun cdv A outer s H vs Q E hr h => ?_)
  obtain ⟨b, a, k, ws, ds, rfl, hab, kn, bg, hd, rfl, q⟩ := h
  cases hd
  have bg : Bag a 0 H := bg
  refine ⟨_, pss_cons (ps_set (i := 1) sc_odd.nd rfl (Or.inl rfl) (pe_lst (pa_cons pe_non (pa_cons pe_bl (pa_cons pe_bl (pa_cons pe_int (pa_cons (pe_un un_neg pe_int) (pa_cons pe_int (pa_cons pe_int (pa_cons pe_int (pa_cons (pe_op op_pow pe_int pe_int) (pa_cons (pe_op op_add (pe_op op_pow pe_int pe_int) pe_int) (pa_cons (pe_op op_sub (pe_un un_neg (pe_op op_pow pe_int pe_int)) pe_int) (pa_cons (pe_op op_powW pe_int pe_int) (pa_cons pe_str (pa_cons pe_str (pa_cons pe_str (pa_cons pe_str pa_nil))))))))))))))))))
    (pss_cons (ps_set (i := 1) sc_odd.nd rfl (Or.inl rfl) (pe_op op_cat (pv 1) (pe_lst (pa_cons pe_str (pa_cons pe_str (pa_cons pe_str (pa_cons pe_str (pa_cons pe_str (pa_cons pe_str (pa_cons pe_str (pa_cons (pe_tupF pa_nil) (pa_cons (pe_lst pa_nil) (pa_cons (pe_tupF (pa_cons pe_str pa_nil)) (pa_cons (pe_tupF (pa_cons pe_str (pa_cons pe_int pa_nil))) (pa_cons (pe_tupF (pa_cons pe_str (pa_cons pe_int pa_nil))) (pa_cons pe_str pa_nil))))))))))))))))
    (pss_cons (ps_set (i := 1) sc_odd.nd rfl (Or.inl rfl) (pe_op op_cat (pv 1) (pe_lst (pa_cons (pe_tupF (pa_cons pe_str (pa_cons pe_int pa_nil))) (pa_cons (pe_tupF (pa_cons pe_str (pa_cons pe_int pa_nil))) (pa_cons (pe_tupF (pa_cons pe_str (pa_cons pe_str pa_nil))) (pa_cons (pe_lst (pa_cons (pe_tupF (pa_cons pe_str pa_nil)) pa_nil)) (pa_cons (pe_tupF (pa_cons pe_str (pa_cons (pe_tupF pa_nil) (pa_cons (pe_tupF (pa_cons (pe_tupF (pa_cons pe_str pa_nil)) pa_nil)) pa_nil)))) (pa_cons (pe_tupF (pa_cons pe_str (pa_cons pe_non pa_nil))) (pa_cons (pe_tupF (pa_cons pe_str pa_nil)) pa_nil))))))))))
    (pss_one (ps_ret (pe_ix ix_list (pv 1) (pe_cd Dt (ok_take Dt) hr (pa_cons (pv 0) (pa_cons (pe_callB call_lenD1 rfl B.len bb_len (pa_cons (pv 1) pa_nil)) pa_nil))) (fun _ _ => rfl)))))), ?_⟩
  have pw : ∀ {σ'} {H'}, ED K b (tOp (rI CPow fun i j => .int (i ^ j.toNat)) (tC (.int 10)) (tC (.int 12))) σ' H' (.int 1000000000000) := fun {_ _} => ed_I ed_int ed_int ⟨by decide, by decide, by decide⟩ fun _ => .int _
  have pw2 : ∀ {σ'} {H'}, ED K b (tOp (rI CPowW fun i j => .int (i ^ j.toNat)) (tC (.int 10)) (tC (.int 39))) σ' H' (.int 1000000000000000000000000000000000000000) := fun {_ _} => ed_I ed_int ed_int ⟨by decide, by decide, by decide⟩ fun _ => .int _
  refine g_lst (K := K) (b := b) (ds := odd1) kn (ea_cons ed_non (ea_cons ed_bl (ea_cons ed_bl (ea_cons ed_int (ea_cons (ed_neg ed_int) (ea_cons ed_int (ea_cons ed_int (ea_cons ed_int (ea_cons pw (ea_cons (ed_add pw ed_int) (ea_cons (ed_sub (ed_neg pw) ed_int) (ea_cons pw2 (ea_cons ed_str (ea_cons ed_str (ea_cons ed_str (ea_cons ed_str ea_nil)))))))))))))))) (by decide) fun p vs H1 hp x1 h1 hv => ?_
  have kn1 := kn.up x1
  have t1 : ∀ {H'} (x y : PyData) {tx ty : TE} {σ'}, Kn b H' → ED K b tx σ' H' x → ED K b ty σ' H' y → ED K b (tTupF (tCons tx (tCons ty tNil))) σ' H' (.tuple [x, y]) := fun {H'} x y {tx ty σ'} k' hx hy => ed_tup k' (ea_cons hx (ea_cons hy ea_nil)) (sz2 (by decide))
  refine g_cat (K := K) (b := b) (ds := odd1) (es := odd2) kn1 rfl h1 hv (ea_cons ed_str (ea_cons ed_str (ea_cons ed_str (ea_cons ed_str (ea_cons ed_str (ea_cons ed_str (ea_cons ed_str (ea_cons (ed_tup kn1 ea_nil (by decide)) (ea_cons (ed_lst kn1 ea_nil (by decide)) (ea_cons (ed_tup kn1 (ea_cons ed_str ea_nil) (by decide)) (ea_cons (t1 _ _ kn1 ed_str ed_int) (ea_cons (t1 _ _ kn1 ed_str ed_int) (ea_cons ed_str ea_nil))))))))))))) (by decide) fun p2 us H2 hp2 x2 h2 hu => ?_
  have kn2 := kn1.up x2
  refine g_cat (K := K) (b := b) (ds := odd1 ++ odd2) (es := odd3) kn2 rfl h2 hu (ea_cons (t1 _ _ kn2 ed_str ed_int) (ea_cons (t1 _ _ kn2 ed_str ed_int) (ea_cons (t1 _ _ kn2 ed_str ed_str) (ea_cons (ed_lst kn2 (ea_cons (ed_tup kn2 (ea_cons ed_str ea_nil) (by decide)) ea_nil) (by decide)) (ea_cons (ed_tup kn2 (ea_cons ed_str (ea_cons (ed_tup kn2 ea_nil (by decide)) (ea_cons (ed_tup kn2 (ea_cons (ed_tup kn2 (ea_cons ed_str ea_nil) (by decide)) ea_nil) (by decide)) ea_nil))) (by decide)) (ea_cons (t1 _ _ kn2 ed_str ed_non) (ea_cons (ed_tup kn2 (ea_cons ed_str ea_nil) (by decide)) ea_nil))))))) (by decide) fun p3 ws H3 hp3 x3 h3 hw => ?_
  have kn3 := kn2.up x3
  have x13 := (x1.trans x2).trans x3
  have bg3 := bg.ex x13
  have hp0 : p3 ∉ b := fun z => kn2 p3 z hp3
  have hd3 : Dq K b H3 (.ref p3) (.list ((odd1 ++ odd2) ++ odd3)) := .lst (.inl (.inl (by rw [hid_ne hp0]; exact h3))) hw
  refine GS.fin (n := 0) (m := 0) (P := OddM) (gs_ret (eg_ixL hab (eg_var (P := (· = .list ((odd1 ++ odd2) ++ odd3))) (i := 1) rfl hab hd3 rfl) (eg_takeE (n := 0) (u := 36) (P1 := (· = .int 36)) hab rfl (eg_pure (fun H' x' _ => ed_len (ed_var (i := 1) rfl (Dq.upB hab hd3 x')) (.inr (.inl rfl)) fun y e => by cases e) rfl) fun d e => ⟨_, e, by decide, by decide, Int.le_refl _⟩) ?_)) kn3 bg3 fun v d H' x bg' hv p => q v d H' ((exb x13).trans x) bg' hv p
  rintro d e rfl hi
  obtain ⟨j, z, rfl, hz, hm⟩ := intB_at (ds := (odd1 ++ odd2) ++ odd3) hi (by decide)
  exact ⟨_, j, z, rfl, rfl, hz, odd_all hm⟩
def PtPre (ds : List PyData) : Prop := ∃ d L k n, ds = [d] ∧ okM L k n d = true ∧ L ≤ 400 ∧ k ≤ 20
def PtR (ds : List PyData) (d' : PyData) : Prop := ∀ d L k n, ds = [d] → okM L k n d = true → OtO L k n d d'
abbrev spPt (K : PySem.W.Frag) : Sp := spG K 0 PtPre PtR
theorem ed_addIB {b : List Addr} {σ : L2.St} {H : Hp} {ta tb : TE} {d : PyData} {j i : Int} (ha : ED K b ta σ H d) (hb : ED K b tb σ H (.int j)) (hd : d = .int i ∨ ∃ c, d = .bool c ∧ i = if c = true then 1 else 0) : ED K b (tOp rAddIB ta tb) σ H (.int (i + j)) :=
  ed_op ha hb fun H1 x y Q _ hx hy q => by
    refine ⟨j, dq_int hy, ?_⟩
    rcases hd with rfl | ⟨c, rfl, rfl⟩
    · exact .inl ⟨i, dq_int hx, q _ H1 (Ex.refl H1) (.int _)⟩
    · exact .inr ⟨c, dq_bl hx, q _ H1 (Ex.refl H1) (.int _)⟩
theorem ed_upper {b : List Addr} {σ : L2.St} {H : Hp} {ta : TE} {x : Str} (ha : ED K b ta σ H (.str x)) (hl : x.length ≤ 5592405) : ED K b (tM0 (fun x xs H Q => ∃ a, x = .str a ∧ xs = [] ∧ a.length ≤ 5592405 ∧ Q (.str (Txt.upper a)) H) ta) σ H (.str (Txt.upper x)) := fun H1 x1 Q q =>
  ha H1 x1 _ fun v H2 x2 hv => ⟨⟨x, dq_str hv⟩, x, dq_str hv, rfl, hl, q _ H2 x2 (.str _)⟩
theorem ed_listOf {b : List Addr} {σ : L2.St} {H : Hp} {ta : TE} {ds : List PyData} (kn : Kn b H) (ha : ED K b ta σ H (.tuple ds)) : ED K b (tCB (rListOf K) (tCons ta tNil)) σ H (.list ds) := fun H1 x1 Q q =>
  ha H1 x1 _ fun v H2 x2 hv => by
    cases hv with
    | tup g1 gn g2 =>
      refine ⟨_, _, rfl, .inr (ex_t hid_le g1), fun l hl => ?_⟩
      have kn2 := kn.up (x1.trans x2)
      exact q _ _ (x2.trans (Ex.new hl)) (.lst (.inl (.inl (hid_new (kn2.new hl)))) (DqAll.up g2 (Ex.new hl)))
theorem ok_pt (D : Def K mg "_law_put" s_pt POt f fd) (Dt : Def K mg "_law_take" s_take ["_law_bag_here", "_law_many"] g gd) (Do : Def K mg "_law_odd" s_odd ["_law_bag_here"] g2 gd2) (Go : FnOk P w K mg base CX0 2 g2 gd2 ["_law_bag_here"] (spG K 0 (· = []) fun _ d => OddM d)) (B : Blt mg) :
    FnOk P w K mg base CX0 3 f fd POt (spPt K) := by
  refine D.F.ok sc_pt (fun vs H Q E h => spG_len (fun ds ⟨_, _, _, _, e, _⟩ => by rw [e]; rfl) h) (fun cdv A outer s H vs Q E hr h => ?_)
  obtain ⟨b, a, k, ws, ds, rfl, hab, kn, bg, hd, ⟨d, L, kk, n, rfl, hok, hL, hk⟩, q⟩ := h
  obtain ⟨v, d', rfl, ed, h1⟩ := one_of hd rfl
  cases ed
  have bg : Bag a 0 H := bg
  refine ⟨_, pss_cons (ps_set (i := 2) sc_pt.nd rfl (Or.inl rfl) (pe_cd Dt (ok_take Dt) (hr.mono (by decide)) (pa_cons (pv 0) (pa_cons pe_int pa_nil))))
    (pss_cons (ps_if (PW.pt (pw_and (pt_val (pe_callB call_isi rfl B.isi bb_isinstance (pa_cons (pv 1) (pa_cons (pe_tyN rfl B.tuple bt_tuple) pa_nil)))) (pw_and1 (pt_cmpR op_lt (pv 2) pe_int (nomark _))))) (pss_cons (ps_set (i := 3) sc_pt.nd rfl (Or.inl rfl) (pe_cd Dt (ok_take Dt) (hr.mono (by decide)) (pa_cons (pv 0) (pa_cons (pe_op op_add (pe_callB call_lenD1 rfl B.len bb_len (pa_cons (pv 1) pa_nil)) pe_int) pa_nil))))
    (pss_cons (ps_set (i := 4) sc_pt.nd rfl (Or.inl rfl) (pe_lst (pa_cons (pe_callTy call_listF rfl B.list bt_list (pa_cons (pv 1) pa_nil)) (pa_cons (pe_slice sl_tupF (pv 1) po_none (po_some (pe_un un_neg pe_int))) (pa_cons (pe_slice sl_tupF (pv 1) (po_some pe_int) po_none) (pa_cons (pe_revT (pv 1)) (pa_cons (pe_op op_catF (pv 1) (pe_slice sl_tupF (pv 1) (po_some (pe_un un_neg pe_int)) po_none)) (pa_cons (pe_op op_catF (pv 1) (pv 1)) pa_nil))))))))
    (pss_one (ps_ret (pe_ix ix_list (pe_op op_cat (pv 4) (pe_lst (pa_cons (pe_op op_catF (pe_op op_catF (pe_slice sl_tupF (pv 1) po_none (po_some (pv 3))) (pe_tupF (pa_cons (pe_cd Do Go hr (pa_cons (pv 0) pa_nil)) pa_nil))) (pe_slice sl_tupF (pv 1) (po_some (pv 3)) po_none)) pa_nil))) (pv 2) (fun _ _ => rfl)))))) pss_nil)
    (pss_cons (ps_if (PW.pt (pw_and (pt_val (pe_callB call_isi rfl B.isi bb_isinstance (pa_cons (pv 1) (pa_cons (pe_tyN rfl B.int bt_int) pa_nil)))) (pw_and1 (pt_cmpR op_lt (pv 2) pe_int (nomark _))))) (pss_one (ps_ret (pe_op op_addIB (pv 1) (pe_ix ix_list (pe_lst (pa_cons pe_int (pa_cons (pe_un un_neg pe_int) (pa_cons pe_int (pa_cons (pe_op op_pow pe_int pe_int) (pa_cons (pe_un un_neg (pe_op op_pow pe_int pe_int)) pa_nil)))))) (pv 2) (fun _ _ => rfl))))) pss_nil)
    (pss_cons (ps_if (PW.pt (pw_and (pt_val (pe_callB call_isi rfl B.isi bb_isinstance (pa_cons (pv 1) (pa_cons (pe_tyN rfl B.str bt_str) pa_nil)))) (pw_and1 (pt_cmpR op_lt (pv 2) pe_int (nomark _))))) (pss_one (ps_ret (pe_ix ix_list (pe_lst (pa_cons (pe_op op_addT (pv 1) pe_str) (pa_cons (pe_slice sl_str (pv 1) (po_some pe_int) po_none) (pa_cons (pe_upper (pv 1)) (pa_cons (pe_lst (pa_cons (pv 1) pa_nil)) pa_nil))))) (pv 2) (fun _ _ => rfl)))) pss_nil)
    (pss_one (ps_ret (pe_cd Do Go hr (pa_cons (pv 0) pa_nil))))))), ?_⟩
  have hsl : sizeLine = 16777216 := sizeLine_eq
  have u1 : ∀ {H'}, ExB a H H' → Dq K b H' v d := fun x => Dq.upB hab h1 x
  have pw : ∀ {b' σ'} {H'}, ED K b' (tOp (rI CPow fun i j => .int (i ^ j.toNat)) (tC (.int 10)) (tC (.int 12))) σ' H' (.int 1000000000000) := fun {_ _ _} => ed_I ed_int ed_int ⟨by decide, by decide, by decide⟩ fun _ => .int _
  have q : ∀ v' d' H', ExB a H H' → Bag a 0 H' → Dq K b H' v' d' → (∀ L k n, okM L k n d = true → OtO L k n d d') → Q v' H' := fun v' d' H' x bg' hv p => q v' d' H' x bg' hv fun d0 L k n e h => by
    injection e with e _
    subst e
    exact p L k n h
  have oddE : ∀ {b' : List Addr} {σ' : L2.St} {H' : Hp}, a ∈ b' → σ'[0]? = some (some (.ref a)) → EG K b' a 0 0 (tCall (spG K 0 (· = []) fun _ d => OddM d) [] E0 (tCons (tVar 0) tNil)) σ' H' OddM := fun {b' σ' H'} hab' h0 => eg_call (c := 0) (S := (· = [])) hab' h0 ega_nil (fun ds e => e) fun ds d' _ ho => ho
  refine GS.fin (n := 0) (m := 0) (P := fun d' => ∀ L k n, okM L k n d = true → OtO L k n d d') (gs_set (k := 0) (eg_take hab rfl (by decide) (by decide)) fun v2 d2 H2 x2 hv2 ⟨r, er, r0, r1⟩ => ?_) kn bg q
  subst er
  have ev2 := dq_int hv2
  subst ev2
  have lt : ∀ (c : Int) {H'}, EvT (tTest (tOp (rI0 fun i j => .bl (decide (i < j))) (tVar 2) (tC (.int c)))) [some (.ref a), some v, some (.int r), none, none] H' (decide (r < c)) := fun c {H'} => et_t (ed_lt (K := K) (b := b) (ed_var (i := 2) (d := .int r) rfl (.int r)) (ed_int (i := c)))
  refine gs_if (c := isD "tuple" d && decide (r < 7)) (fun H1 y1 kn1 => et_and (et_b (ed_isi (K := K) (b := b) (T := "tuple") (.inr (.inr (.inr (.inl rfl)))) (ed_var (i := 1) rfl (u1 (x2.trans y1))))) fun _ => lt 7) (fun hc => ?_) fun _ => ?_
  · -- a tuple
    rw [Bool.and_eq_true] at hc
    obtain ⟨ds, rfl⟩ := isD_tuple hc.1
    have r7 := of_decide_eq_true hc.2
    obtain ⟨m, rfl⟩ := okM_t0 hok
    have hlen : ds.length ≤ 400 := by have := (okM_tup.mp hok).1; omega
    refine gs_set (k := 0) (eg_takeE (u := ((ds.length + 1 : Nat) : Int)) (P1 := (· = .int ((ds.length + 1 : Nat) : Int))) hab rfl (eg_pure (fun H' x' _ => ed_add (ed_len (ed_var (i := 1) rfl (u1 (x2.trans x'))) (.inr (.inr rfl)) fun y e => by cases e) (ed_int (i := 1))) rfl) fun d' e => ⟨_, e, by omega, by omega, Int.le_refl _⟩) fun v3 d3 H3 x3 hv3 ⟨i, ei, i0, i1⟩ => ?_
    subst ei
    have ev3 := dq_int hv3
    subst ev3
    obtain ⟨j, rfl⟩ : ∃ j : Nat, i = (j : Int) := ⟨i.toNat, by omega⟩
    have x23 := x2.trans x3
    intro H4 y4 kn4 bg4 D qq
    have x24 := x23.trans y4
    have vT := u1 x24
    have va : ∀ {σ'}, σ'[1]? = some (some v) → ED K b (tVar 1) σ' H4 (.tuple ds) := fun hs => ed_var (i := 1) hs vT
    have ls := cutD_len ds
    refine g_lst (K := K) (b := b) (σ := [some (.ref a), some v, some (.int r), some (.int (j : Nat)), none]) (ds := [.list ds, .tuple (cutD ds none (some (-1))), .tuple (cutD ds (some 1) none), .tuple ds.reverse, .tuple (ds ++ cutD ds (some (-1)) none), .tuple (ds ++ ds)]) kn4
      (ea_cons (ed_listOf kn4 (va rfl)) (ea_cons (ed_slT kn4 (va rfl) eo_none (eo_some (K := K) (b := b) (ed_neg (ed_int (i := 1))))) (ea_cons (ed_slT kn4 (va rfl) (eo_some (K := K) (b := b) (ed_int (i := 1))) eo_none) (ea_cons (ed_revT kn4 (va rfl)) (ea_cons (ed_catT kn4 (va rfl) (ed_slT kn4 (va rfl) (eo_some (K := K) (b := b) (ed_neg (ed_int (i := 1)))) eo_none) (by have := ls (some (-1)) none; omega)) (ea_cons (ed_catT kn4 (va rfl) (va rfl) (by omega)) ea_nil)))))) (by show 6 ≤ sizeLine; omega) fun pS vs H5 hpS x5 hS dS => ?_
    have kn5 := kn4.up x5
    have bg5 := bg4.ex x5
    have x25 : ExB a H H5 := x24.trans (exb x5)
    have vT5 := u1 x25
    have hSa : pS ≠ a := fun z => bg4.there (z ▸ hpS)
    show tRet _ _ [some (.ref a), some v, some (.int r), some (.int (j : Nat)), some (.ref pS)] H5
    have hj : j ≤ ds.length := by omega
    have ins := eg_catT (K := K) (b := b) (a := a) (n := 0) (k := 0) (m := 0) (σ := [some (.ref a), some v, some (.int r), some (.int (j : Nat)), some (.ref pS)]) (H := H5) (P := fun e => ∃ o, e = .tuple ((ds.take j ++ [o]) ++ ds.drop j) ∧ OddM o) (P1 := fun e => ∃ o, e = .tuple (ds.take j ++ [o]) ∧ OddM o) (P2 := (· = .tuple (ds.drop j))) hab
      (eg_catT (k := 0) (P1 := (· = .tuple (ds.take j))) (P2 := fun e => ∃ o, e = .tuple [o] ∧ OddM o) hab (eg_pure (fun H' x' kn' => (ed_slT kn' (ed_var (i := 1) rfl (Dq.upB hab vT5 x')) eo_none (eo_some (K := K) (b := b) (ed_var (i := 3) (d := .int (j : Nat)) rfl (.int _)))).to (by rw [cut_to])) rfl)
        (eg_tup (ega_cons (P := OddM) hab (oddE hab rfl) ega_nil) fun ds' ⟨d', r', e1, e2, e3⟩ => by
          subst e1 e3
          exact ⟨sz1 (by decide), d', rfl, e2⟩) fun d' e he ⟨o, ho, hO⟩ => ⟨_, _, he, ho, by rw [List.length_take, List.length_singleton]; omega, o, rfl, hO⟩)
      (eg_pure (fun H' x' kn' => (ed_slT kn' (ed_var (i := 1) rfl (Dq.upB hab vT5 x')) (eo_some (K := K) (b := b) (ed_var (i := 3) (d := .int (j : Nat)) rfl (.int _))) eo_none).to (by rw [cut_from])) rfl) fun d' e ⟨o, ho, hO⟩ he => ⟨_, _, ho, he, by rw [List.length_append, List.length_take, List.length_drop, List.length_singleton]; omega, o, rfl, hO⟩
    refine ⟨.ref pS, rfl, ins H5 (ExB.refl a H5) kn5 bg5 _ fun vx dx H6 x6 bg6 hvx ⟨o, edx, hO⟩ => ?_⟩
    subst edx
    have hS6 := x6 _ _ hSa hS
    have dS6 := DqAll.upB hab dS x6
    have kn6 := x6.kn kn5 bg6
    have lvs : vs.length = 6 := dps_len dS
    refine ⟨by show 1 ≤ sizeLine; omega, fun p2 hp2 => ?_⟩
    have xa := Ex.new (o := HO.lst [vx]) hp2
    refine ⟨pS, p2, vs, [vx], rfl, rfl, xa _ _ hS6, upd_same, by rw [lvs]; show 6 + 1 ≤ sizeLine; omega, fun p3 hp3 => ?_⟩
    have xb := Ex.new (o := HO.lst (vs ++ [vx])) hp3
    have x68 := xa.trans xb
    have all7 : DqAll K b (upd (upd H6 p2 (.lst [vx])) p3 (.lst (vs ++ [vx]))) (vs ++ [vx]) ([.list ds, .tuple (cutD ds none (some (-1))), .tuple (cutD ds (some 1) none), .tuple ds.reverse, .tuple (ds ++ cutD ds (some (-1)) none), .tuple (ds ++ ds)] ++ [.tuple ((ds.take j ++ [o]) ++ ds.drop j)]) := DqAll.up (dps_app dS6 (.cons hvx .nil)) x68
    obtain ⟨t, rfl⟩ : ∃ t : Nat, r = (t : Int) := ⟨r.toNat, by omega⟩
    have ht : t < 7 := by omega
    obtain ⟨vr, hvr⟩ : ∃ vr, (vs ++ [vx])[t]? = some vr := ⟨_, List.getElem?_eq_getElem (by rw [List.length_append, lvs]; exact ht)⟩
    obtain ⟨dr, hdr, ddr⟩ := dps_at all7 hvr
    refine ⟨.int (t : Nat), rfl, p3, _, (t : Nat), vr, rfl, rfl, .inl (.inl upd_same), atI_nat hvr, ?_⟩
    refine qq vr dr _ ((exb x5).trans (x6.trans (exb x68))) (bg6.ex x68) ddr fun L k n hok' => ?_
    have hm := List.mem_of_getElem? hdr
    have tw : ∀ (es : List PyData), es.length ≤ 2 * ds.length → (∀ e ∈ es, e ∈ ds) → szAll es ≤ 2 * szAll ds → OtO L k n (.tuple ds) (.tuple es) ∧ OtO L k n (.tuple ds) (.list es) := fun es h1 h2 h3 => ot_tup hok' h1 h2 h3
    have c1 : ∀ lo hi, OtO L k n (.tuple ds) (.tuple (cutD ds lo hi)) := fun lo hi => (tw _ (by have := cutD_len ds lo hi; omega) (fun e he => cutD_mem he) (by have := cutD_sz ds lo hi; omega)).1
    simp only [List.mem_append, List.mem_cons, List.not_mem_nil, or_false] at hm
    rcases hm with (rfl | rfl | rfl | rfl | rfl | rfl) | rfl
    · exact (tw ds (by omega) (fun e he => he) (by omega)).2
    · exact c1 _ _
    · exact c1 _ _
    · exact (tw ds.reverse (by rw [List.length_reverse]; omega) (fun e he => List.mem_reverse.mp he) (by rw [szAll_rev]; omega)).1
    · refine (tw _ ?_ (fun e he => ?_) ?_).1
      · rw [List.length_append]; have := cutD_len ds (some (-1)) none; omega
      · rcases List.mem_append.mp he with he | he
        · exact he
        · exact cutD_mem he
      · rw [szAll_app]; have := cutD_sz ds (some (-1)) none; omega
    · refine (tw _ ?_ (fun e he => ?_) ?_).1
      · rw [List.length_append]; omega
      · rcases List.mem_append.mp he with he | he <;> exact he
      · rw [szAll_app]; omega
    · exact ot_ins j hok' hO
  refine gs_if (c := isD "int" d && decide (r < 5)) (fun H1 y1 kn1 => et_and (et_b (ed_isi (K := K) (b := b) (T := "int") (.inl rfl) (ed_var (i := 1) rfl (u1 (x2.trans y1))))) fun _ => lt 5) (fun hc => ?_) fun _ => ?_
  · -- an int, or a truth
    rw [Bool.and_eq_true] at hc
    have r5 := of_decide_eq_true hc.2
    obtain ⟨i, hi, hin⟩ : ∃ i : Int, (d = .int i ∨ ∃ c, d = .bool c ∧ i = if c = true then 1 else 0) ∧ ∀ {L k n}, okM L k n d = true → i.natAbs < 10 ^ 40 + k * 10 ^ 13 := by
      cases d with
      | int i => exact ⟨i, .inl rfl, fun h => okM_int.mp h⟩
      | bool c => exact ⟨if c = true then 1 else 0, .inr ⟨c, rfl, rfl⟩, fun {L k n} _ => by
          have h1 : (if c = true then (1 : Int) else 0).natAbs ≤ 1 := by cases c <;> decide
          have h2 : (1 : Nat) < 10 ^ 40 := by decide
          omega⟩
      | _ => simp [isD, dTy, tyIs] at hc
    obtain ⟨t, rfl⟩ : ∃ t : Nat, r = (t : Int) := ⟨r.toNat, by omega⟩
    have ht : t < 5 := by omega
    obtain ⟨j, hj⟩ : ∃ j, ([1, -1, 60, 1000000000000, -1000000000000] : List Int)[t]? = some j := ⟨_, List.getElem?_eq_getElem ht⟩
    have hjb : j.natAbs ≤ 10 ^ 12 := by
      have := List.mem_of_getElem? hj
      simp only [List.mem_cons, List.not_mem_nil, or_false] at this
      rcases this with rfl | rfl | rfl | rfl | rfl <;> decide
    refine gs_ret (eg_pure (d := .int (i + j)) (fun H1 y1 kn1 => ed_addIB (ed_var (i := 1) rfl (u1 (x2.trans y1))) (ed_ixL (ds := ([1, -1, 60, 1000000000000, -1000000000000] : List Int).map .int) (ed_lst kn1 (ea_cons ed_int (ea_cons (ed_neg ed_int) (ea_cons ed_int (ea_cons pw (ea_cons (ed_neg pw) ea_nil))))) (by show 5 ≤ sizeLine; omega)) (ed_var (i := 2) (d := .int (t : Nat)) rfl (.int _)) (atI_nat (by rw [List.getElem?_map, hj]; rfl))) hi) fun L k n h => ot_int (hin h) hjb (Nat.zero_le _))
  refine gs_if (c := isD "str" d && decide (r < 4)) (fun H1 y1 kn1 => et_and (et_b (ed_isi (K := K) (b := b) (T := "str") (.inr (.inr (.inl rfl))) (ed_var (i := 1) rfl (u1 (x2.trans y1))))) fun _ => lt 4) (fun hc => ?_) fun _ => gs_ret ((oddE hab rfl).imp fun d' ho L k n _ => odd_ot ho)
  -- a text
  rw [Bool.and_eq_true] at hc
  have r4 := of_decide_eq_true hc.2
  obtain ⟨x, rfl⟩ := isD_str hc.1
  have hx := okM_str.mp hok
  have hxl : x.length ≤ 100 := by rw [len_tl]; omega
  have la : ("a" : Str).length = 1 := by decide +kernel
  have ta : tl ("a" : Str) = [97] := by decide +kernel
  obtain ⟨t, rfl⟩ : ∃ t : Nat, r = (t : Int) := ⟨r.toNat, by omega⟩
  have ht : t < 4 := by omega
  obtain ⟨y, hy⟩ : ∃ y, ([.str (x ++ "a"), .str (cutS x (some 1) none), .str (Txt.upper x), .list [.str x]] : List PyData)[t]? = some y := ⟨_, List.getElem?_eq_getElem ht⟩
  refine gs_ret (eg_pure (d := y) (fun H1 y1 kn1 => ed_ixL (ed_lst kn1 (ea_cons (ed_addT (ed_var (i := 1) rfl (u1 (x2.trans y1))) (ed_str (x := "a")) (by omega)) (ea_cons (ed_slS (ed_var (i := 1) rfl (u1 (x2.trans y1))) (eo_some (K := K) (b := b) (ed_int (i := 1))) eo_none (by omega)) (ea_cons (ed_upper (ed_var (i := 1) rfl (u1 (x2.trans y1))) (by omega)) (ea_cons (ed_lst kn1 (ea_cons (ed_var (i := 1) rfl (u1 (x2.trans y1))) ea_nil) (sz1 (by decide))) ea_nil)))) (by show 4 ≤ sizeLine; omega)) (ed_var (i := 2) (d := .int (t : Nat)) rfl (.int _)) (atI_nat hy)) fun L k n h => ?_)
  have hx' := okM_str.mp h
  have hm := List.mem_of_getElem? hy
  simp only [List.mem_cons, List.not_mem_nil, or_false] at hm
  rcases hm with rfl | rfl | rfl | rfl
  · refine ot_str h (fun c hc => ?_) ?_
    · rw [tl_append, ta] at hc
      rcases List.mem_append.mp hc with hc | hc
      · exact hx'.1 c hc
      · rw [List.mem_singleton.mp hc]; decide
    · rw [tl_append, ta, List.length_append]
      exact Nat.le_refl _
  · have e : tl (cutS x (some 1) none) = (tl x).drop 1 := tl_cut x 1
    refine ot_str h (fun c hc => ?_) ?_
    · rw [e] at hc
      exact hx'.1 c (List.mem_of_mem_drop hc)
    · rw [e, List.length_drop]
      omega
  · refine ot_str h (fun c hc => ?_) ?_
    · rw [up_tl hx'.1] at hc
      obtain ⟨c0, h0, rfl⟩ := List.mem_map.mp hc
      have := hx'.1 c0 h0
      unfold up1
      split <;> omega
    · rw [up_tl hx'.1, List.length_map]
      omega
  · refine ⟨okM_lst.mpr ⟨by show 1 ≤ _; omega, fun e he => ?_⟩, ?_⟩
    · rw [List.mem_singleton.mp he]
      exact okM_str.mpr ⟨hx'.1, by omega⟩
    · rw [szD_lst, szAll_one]
      omega
end
end Wr

set_option Elab.async false
set_option linter.all false
set_option maxRecDepth 100000
set_option maxHeartbeats 4000000
namespace Wr
open PySem PySem.Spec PyProof.Rows L2 Evl TL
def OtPre (n : Nat) (ds : List PyData) : Prop := ∃ d L k, ds = [d] ∧ okM L k n d = true ∧ L ≤ 400 ∧ k ≤ 20
abbrev spOt (K : PySem.W.Frag) (n : Nat) : Sp := spG K 0 (OtPre n) PtR
section
variable {P : Program} {w : World} {K : PySem.W.Frag} {mg : Str → Option Value} {base : Heap} {f g g2 g3 : Addr} {fd gd gd2 gd3 : FuncData}
theorem other_step (D : Def K mg "_law_otherwise" s_ot POt f fd) (Dt : Def K mg "_law_take" s_take ["_law_bag_here", "_law_many"] g gd) (Dp : Def K mg "_law_put" s_pt POt g2 gd2) (Gp : FnOk P w K mg base CX0 3 g2 gd2 POt (spPt K)) (B : Blt mg)
    {n k0 : Nat} {spR : Sp} (G : FnOk P w K mg base CX0 k0 f fd POt spR) (hk0 : 3 ≤ k0) (hn : n ≤ 20) (hR : n = 0 ∨ ∃ m, n = m + 1 ∧ spR = spOt K m) : FnOk P w K mg base CX0 (k0 + 1) f fd POt (spOt K n) := by
  refine D.F.ok sc_ot (fun vs H Q E h => spG_len (fun ds ⟨_, _, _, e, _⟩ => by rw [e]; rfl) h) (fun cdv A outer s H vs Q E hr h => ?_)
  obtain ⟨b, a, k, ws, ds, rfl, hab, kn, bg, hd, ⟨d, L, kk, rfl, hok, hL, hk⟩, q⟩ := h
  obtain ⟨v, d', rfl, ed, h1⟩ := one_of hd rfl
  cases ed
  have bg : Bag a 0 H := bg
  refine ⟨_, pss_cons (ps_if (PW.pt (pw_and (pt_val (pe_callB call_isi rfl B.isi bb_isinstance (pa_cons (pv 1) (pa_cons (pe_tyN rfl B.tuple bt_tuple) pa_nil)))) (pw_and (pt_cmpR (op_neD (hu64 hr)) (pv 1) (pe_tupF pa_nil) (nomark _)) (pw_and1 (pt_cmpR op_gt (pe_cd Dt (ok_take Dt) (hr.mono (by omega)) (pa_cons (pv 0) (pa_cons pe_int pa_nil))) pe_int (nomark _)))))) (pss_cons (ps_set (i := 2) sc_ot.nd rfl (Or.inl rfl) (pe_cd Dt (ok_take Dt) (hr.mono (by omega)) (pa_cons (pv 0) (pa_cons (pe_callB call_lenD1 rfl B.len bb_len (pa_cons (pv 1) pa_nil)) pa_nil))))
    (pss_one (ps_ret (pe_op op_catF (pe_op op_catF (pe_slice sl_tupF (pv 1) po_none (po_some (pv 2))) (pe_tupF (pa_cons (pe_cd D G hr (pa_cons (pv 0) (pa_cons (pe_ix ix_tup (pv 1) (pv 2) (fun _ _ => rfl)) pa_nil))) pa_nil))) (pe_slice sl_tupF (pv 1) (po_some (pe_op op_add (pv 2) pe_int)) po_none))))) pss_nil)
    (pss_one (ps_ret (pe_cd Dp Gp (hr.mono (by omega)) (pa_cons (pv 0) (pa_cons (pv 1) pa_nil))))), ?_⟩
  have hsl : sizeLine = 16777216 := sizeLine_eq
  have u1 : ∀ {H'}, ExB a H H' → Dq K b H' v d := fun x => Dq.upB hab h1 x
  have q : ∀ v' d' H', ExB a H H' → Bag a 0 H' → Dq K b H' v' d' → (∀ L k n, okM L k n d = true → OtO L k n d d') → Q v' H' := fun v' d' H' x bg' hv p => q v' d' H' x bg' hv fun d0 L k n e h => by
    injection e with e _
    subst e
    exact p L k n h
  have okd : okD n d = true := okM_ok (by omega) (by omega) _ _ hok
  -- put otherwise
  have putE : ∀ H1, ExB a H H1 → Kn b H1 → Bag a 0 H1 → tRet (tCall (spPt K) [] E0 (tCons (tVar 0) (tCons (tVar 1) tNil))) { nx := fun _ H' => Q .non H', rt := Q } [some (.ref a), some v, none] H1 := fun H1 x1 kn1 bg1 => by
    refine (eg_call (K := K) (b := b) (a := a) (n := 0) (m := 0) (c := 0) (E := E0) (i := 0) (σ := [some (.ref a), some v, none]) (H := H1) (pre := PtPre) (R := PtR) (P := fun d' => ∀ L k n, okM L k n d = true → OtO L k n d d') (S := (· = [d])) hab rfl (fun H2 y2 kn2 bg2 Q' q' => (ega_cons (K := K) (P := (· = d)) hab (eg_pure (fun H3 y3 _ => ed_var (i := 1) rfl (Dq.upB hab (u1 x1) y3)) rfl) ega_nil) H2 y2 kn2 bg2 Q' fun vs ds H3 y3 b3 hvs ⟨d1, r1, e1, e2, e3⟩ => q' vs ds H3 y3 b3 hvs (by rw [e1, e2, e3])) (fun ds e => ⟨d, L, kk, n, e, hok, hL, hk⟩) fun ds d' e hp L k n h => hp d L k n e h) H1 (ExB.refl a H1) kn1 bg1 _ fun v' d' H2 x2 bg2 hv p => q v' d' H2 (x1.trans x2) bg2 hv p
  have t1 := et_b (ed_isi (K := K) (b := b) (σ := [some (.ref a), some v, none]) (H := H) (T := "tuple") (.inr (.inr (.inr (.inl rfl)))) (ed_var (i := 1) rfl h1))
  cases hs : isD "tuple" d with
  | false =>
    rw [hs] at t1
    refine t1 H (Ex.refl H) _ fun H1 x1 => ?_
    rw [if_neg Bool.false_ne_true]
    show (if false = true then _ else _)
    rw [if_neg Bool.false_ne_true]
    exact putE H1 (exb x1) (kn.up x1) (bg.ex x1)
  | true =>
  obtain ⟨ds, rfl⟩ := isD_tuple hs
  rw [hs] at t1
  refine t1 H (Ex.refl H) _ fun H1 x1 => ?_
  rw [if_pos rfl]
  have kn1 := kn.up x1
  have bg1 := bg.ex x1
  have t2 := et_t (ed_ne (K := K) (b := b) (σ := [some (.ref a), some v, none]) (H := H1) (ed_var (i := 1) rfl (Dq.up h1 x1)) (ed_tup kn1 ea_nil (by decide)) (ok_shaped okd (by omega)) (by decide +kernel))
  rw [eqv_nil] at t2
  refine t2 H1 (Ex.refl H1) _ fun H2 x2 => ?_
  have x12 := x1.trans x2
  have kn2 := kn1.up x2
  have bg2 := bg1.ex x2
  cases he : ds.isEmpty with
  | true =>
    show (if (!true) = true then _ else _)
    rw [show (!true) = false from rfl, if_neg Bool.false_ne_true]
    show (if false = true then _ else _)
    rw [if_neg Bool.false_ne_true]
    exact putE H2 (exb x12) kn2 bg2
  | false =>
  show (if (!false) = true then _ else _)
  rw [show (!false) = true from rfl, if_pos rfl]
  refine (eg_op (K := K) (b := b) (a := a) (n := 0) (k := 0) (m := 0) (σ := [some (.ref a), some v, none]) (H := H2) (r := rI0 fun i j => .bl (decide (j < i))) (P := fun d => ∃ c, d = .bool c) (P2 := (· = .int 0)) hab (eg_take (E := E0) (i := 0) (u := 5) hab rfl (by decide) (by decide)) eg_int fun d e H1 x y Q ⟨r, er, _⟩ ee _ _ hx hy q => by
    subst er ee
    exact ⟨r, 0, dq_int hx, dq_int hy, q _ _ H1 (Ex.refl H1) (.bl _) ⟨_, rfl⟩⟩) H2 (ExB.refl a H2) kn2 bg2 _ fun vb db H3 x3 bg3 hvb ⟨c, ec⟩ => ?_
  subst ec
  refine ⟨c, dq_bl hvb, ?_⟩
  have x13 : ExB a H H3 := (exb x12).trans x3
  have kn3 := x3.kn kn2 bg3
  cases c with
  | false =>
    show (if false = true then _ else _)
    rw [if_neg Bool.false_ne_true]
    exact putE H3 x13 kn3 bg3
  | true =>
  show (if true = true then _ else _)
  rw [if_pos rfl]
  obtain ⟨m, rfl⟩ := okM_t0 hok
  obtain ⟨m', em, rfl⟩ : ∃ m', m + 1 = m' + 1 ∧ spR = spOt K m' := hR.resolve_left (by omega)
  have em : m = m' := by omega
  subst em
  have hok' := okM_tup.mp hok
  have hlen : ds.length ≤ 400 := by omega
  have hpos : 0 < ds.length := by
    cases ds with
    | nil => cases he
    | cons => simp
  have w1 : ∀ {H'}, ExB a H3 H' → Dq K b H' v (.tuple ds) := fun x => u1 (x13.trans x)
  refine g_setG (eg_takeE (K := K) (b := b) (a := a) (E := E0) (i := 0) (n := 0) (m := 0) (u := (ds.length : Nat)) (P1 := (· = .int (ds.length : Nat))) hab rfl (eg_pure (fun H' x' _ => ed_len (ed_var (i := 1) rfl (w1 x')) (.inr (.inr rfl)) (fun y e => by cases e)) rfl) fun d' e => ⟨_, e, by omega, by omega, Int.le_refl _⟩) kn3 bg3 fun v4 d4 H4 x4 bg4 kn4 hv4 ⟨i, ei, i0, i1⟩ => ?_
  subst ei
  have ev4 := dq_int hv4
  subst ev4
  obtain ⟨j, rfl⟩ : ∃ j : Nat, i = (j : Int) := ⟨i.toNat, by omega⟩
  have hj : j < ds.length := by omega
  show tRet _ _ [some (.ref a), some v, some (.int (j : Nat))] H4
  have z1 : ∀ {H'}, ExB a H4 H' → Dq K b H' v (.tuple ds) := fun x => w1 (x4.trans x)
  refine (eg_catT (K := K) (b := b) (a := a) (n := 0) (k := 0) (m := 0) (σ := [some (.ref a), some v, some (.int (j : Nat))]) (H := H4) (P := fun e => ∃ o, e = .tuple ((ds.take j ++ [o]) ++ ds.drop (j + 1)) ∧ PtR [ds[j]] o) (P1 := fun e => ∃ o, e = .tuple (ds.take j ++ [o]) ∧ PtR [ds[j]] o) (P2 := (· = .tuple (ds.drop (j + 1)))) hab
      (eg_catT (k := 0) (P1 := (· = .tuple (ds.take j))) (P2 := fun e => ∃ o, e = .tuple [o] ∧ PtR [ds[j]] o) hab (eg_pure (fun H' x' kn' => (ed_slT kn' (ed_var (i := 1) rfl (z1 x')) eo_none (eo_some (K := K) (b := b) (ed_var (i := 2) (d := .int (j : Nat)) rfl (.int _)))).to (by rw [cut_to])) rfl)
        (eg_tup (ega_cons (P := PtR [ds[j]]) hab (eg_call (c := 0) (m := 0) (E := E0) (i := 0) (pre := OtPre m) (R := PtR) (S := (· = [ds[j]])) hab rfl (fun H5 y5 kn5 bg5 Q' q' => (ega_cons (K := K) (P := (· = ds[j])) hab (eg_pure (fun H6 y6 _ => ed_ixT (ed_var (i := 1) rfl (z1 y6)) (ed_var (i := 2) (d := .int (j : Nat)) rfl (.int _)) (atI_nat (List.getElem?_eq_getElem hj))) rfl) ega_nil) H5 y5 kn5 bg5 Q' fun vs es H6 y6 b6 hvs ⟨d1, r1, e1, e2, e3⟩ => q' vs es H6 y6 b6 hvs (by rw [e1, e2, e3])) (fun es e => ⟨_, L, kk, e, hok'.2 _ (List.getElem_mem hj), hL, hk⟩) fun es o e hp => by rw [e] at hp; exact hp) ega_nil) fun ds' ⟨d', r', e1, e2, e3⟩ => by
          subst e1 e3
          exact ⟨sz1 (by decide), d', rfl, e2⟩) fun d' e he ⟨o, ho, hO⟩ => ⟨_, _, he, ho, by rw [List.length_take, List.length_singleton]; omega, o, rfl, hO⟩)
      (eg_pure (fun H' x' kn' => (ed_slT kn' (ed_var (i := 1) rfl (z1 x')) (eo_some (K := K) (b := b) (ed_add (ed_var (i := 2) (d := .int (j : Nat)) rfl (.int _)) (ed_int (i := 1)))) eo_none).to (by rw [show ((j : Int) + 1) = ((j + 1 : Nat) : Int) from rfl, cut_from])) rfl) fun d' e ⟨o, ho, hO⟩ he => ⟨_, _, ho, he, by rw [List.length_append, List.length_take, List.length_drop, List.length_singleton]; omega, o, rfl, hO⟩) H4 (ExB.refl a H4) kn4 bg4 _ fun v' d' H5 x5 bg5 hv ⟨o, eo, hO⟩ => q v' d' H5 ((x13.trans x4).trans x5) bg5 hv fun L k n h => ?_
  subst eo
  obtain ⟨n', rfl⟩ := okM_t0 h
  exact ot_in hj h (hO _ L k n' rfl ((okM_tup.mp h).2 _ (List.getElem_mem hj)))
theorem ok_ot (D : Def K mg "_law_otherwise" s_ot POt f fd) (Dt : Def K mg "_law_take" s_take ["_law_bag_here", "_law_many"] g gd) (Dp : Def K mg "_law_put" s_pt POt g2 gd2) (Gp : FnOk P w K mg base CX0 3 g2 gd2 POt (spPt K)) (B : Blt mg) :
    ∀ n : Nat, n ≤ 20 → FnOk P w K mg base CX0 (n + 4) f fd POt (spOt K n)
  | 0, h => other_step D Dt Dp Gp B (k0 := 3) (spR := fun _ _ _ _ => False) ⟨fun _ _ _ _ z => z.elim, fun _ _ _ _ _ _ _ _ _ _ _ _ _ z => z.elim⟩ (Nat.le_refl 3) h (.inl rfl)
  | n + 1, h => other_step D Dt Dp Gp B (ok_ot D Dt Dp Gp B n (by omega)) (by omega) h (.inr ⟨n, rfl, rfl⟩)
end
end Wr

set_option Elab.async false
set_option linter.all false
set_option maxRecDepth 100000
set_option maxHeartbeats 4000000
namespace Wr
open PySem PySem.Spec PyProof.Rows L2 Evl TL
abbrev veTail : List Value := [.type "ValueError", .type "Exception", .type "BaseException", .type "object"]
/-- what the top leaves of NoProgram -/
structure NgC (K : PySem.W.Frag) (mg : Str → Option Value) (C : Addr) : Prop where
  m : mg "NoProgram" = some (.ref C)
  q : PySem.W.excIn K C veTail "ValueError.__new__" = true
  kC : PySem.W.keepIn K (.ref C) = true
  sub : PySem.W.subIn K (.ref C) (.type "BaseException") = some true
  ty : PySem.W.typeIn K (.ref C) = some (.type "type")
def spCk (K : PySem.W.Frag) (C : Addr) : Sp := fun vs H Q E => ∃ b d, Kn b H ∧ DqAll K b H vs [d] ∧ okD 30 d = true ∧ (progD d = true → ∀ H', Ex H H' → Q .non H') ∧ (progD d = false → ∀ H', Ex H H' → E (.ref C) none H')
def spShR (K : PySem.W.Frag) (C : Addr) : Sp := fun vs H _ E => ∃ b d, Kn b H ∧ DqAll K b H vs [d] ∧ okD 30 d = true ∧ progD d = false ∧ ∀ H', Ex H H' → E (.ref C) none H'
/-- a text that is read to these parts, which are no program -/
structure RdNo (x : Str) (st : List Pt) : Prop where
  all : readAll [] (Txt.split x ln1) = some st
  has : hasRows st = true
  ok : okD 30 (prD st) = true
  pg : progD (prD st) = false
  len : x.length ≤ 1000000
  ls : (Txt.split x ln1).length ≤ 100000
  wd : ∀ l ∈ Txt.split x ln1, l.length ≤ 1000000 ∧ Txt.split l bl1 ≠ [] ∧ (Txt.split l bl1).length ≤ 1000 ∧ ∀ w ∈ Txt.split l bl1, WdOk w
def spRdR (K : PySem.W.Frag) (C : Addr) : Sp := fun vs H _ E => ∃ (b : List Addr) (v : V) (x : Str) (st : List Pt), vs = [v] ∧ Kn b H ∧ Dq K b H v (.str x) ∧ RdNo x st ∧ ∀ H', Ex H H' → E (.ref C) none H'
theorem rd_no {ps : List Pt} (G : WelP ps) (ho : okD 30 (prD ps) = true) (hp : progD (prD ps) = false) : RdNo (showW numT ps) ps := by
  have F := numT_len
  have hne : ps ≠ [] := fun e => by have := G.l1; rw [e] at this; cases this
  have hs := show_split F.ok hne G.ok
  obtain ⟨l1, l2, l3⟩ := show_len F G
  refine ⟨?_, ?_, ho, hp, by omega, by rw [hs]; omega, ?_⟩
  · rw [hs]
    exact read_back F.ok ps [] G.ok rfl
  · rcases List.eq_nil_or_concat ps with e | ⟨st, p, e⟩
    · exact absurd e hne
    · rw [List.concat_eq_append] at e
      rw [e]
      exact hasRows_app (G.ok p (by rw [e]; simp)).r0
  · rw [hs]
    refine lines_all F (C := fun l => l.length ≤ 1000000 ∧ Txt.split l bl1 ≠ [] ∧ (Txt.split l bl1).length ≤ 1000 ∧ ∀ w ∈ Txt.split l bl1, WdOk w) (fun n r h hn => ?_) (fun p h => ?_) G.ok
    · have hl := row_ln F h hn
      obtain ⟨k1, k2⟩ := row_ws F h hn
      rw [rowW_split F.ok h hn]
      exact ⟨by omega, by simp, by omega, fun w hw => ⟨(k2 w hw).2, by have := (k2 w hw).1; omega⟩⟩
    · have hl := head_ln h
      obtain ⟨k1, k2⟩ := head_ws h
      rw [headW_split h]
      exact ⟨by omega, by simp, by omega, fun w hw => ⟨(k2 w hw).2, by have := (k2 w hw).1; omega⟩⟩
section
variable {P : Program} {w : World} {K : PySem.W.Frag} {mg : Str → Option Value} {base : Heap} {C f g g2 g3 g4 g5 aN aR aL : Addr} {fd gd gd2 gd3 gd4 gd5 : FuncData} {tk tk2 : Tok}
theorem ok_checkX (T : NgC K mg C) (D : Def K mg "check_program" s_check ["thing"] f fd) {st : Stmt} (D1 : Def K mg "is_program" st ["thing"] g gd) (G1 : FnOk P w K mg base CX0 5 g gd ["thing"] (spP K ProgPre (F1 progD))) :
    FnOk P w K mg base (L2.CX P w) 6 f fd ["thing"] (spCk K C) := by
  refine D.F.okX sc_check (fun vs H Q E ⟨b, d, _, hd, _⟩ => by rw [dps_len hd]; rfl) (fun cdv A outer s H vs Q E hr h => ?_)
  obtain ⟨b, d, kn, hd, ho, q1, q2⟩ := h
  obtain ⟨v, d', rfl, e, h1⟩ := one_of hd rfl
  cases e
  refine ⟨_, pss_one (ps_if (pt_not (pt_val (pe_cd D1 G1 hr (pa_cons (pv 0) pa_nil)))) (pss_one (ps_raise (W := fun cls d _ H => E cls d H) rfl (takes_of rfl rfl rfl rfl) (pmk_own F.excBase_ValueError T.q T.m T.kC (raises_own T.sub T.ty) rfl))) pss_nil), ?_⟩
  have t1 := et_n (et_b (ed_call (K := K) (b := b) (σ := start ["thing"] [v]) (H := H) (pre := ProgPre) (f := F1 progD) (E := E0) kn (ea_cons (ed_var (i := 0) rfl h1) ea_nil) ⟨rfl, fun d' e => by cases e; exact ho⟩))
  refine t1 H (Ex.refl H) _ fun H1 x1 => ?_
  cases hp : progD d with
  | true =>
    show ite (false = true) _ _
    rw [if_neg Bool.false_ne_true]
    exact q1 hp H1 x1
  | false =>
    show ite (true = true) _ _
    rw [if_pos rfl]
    exact q2 hp H1 x1
theorem ok_showR (D : Def K mg "show_program" s_show ["program"] f fd) (Dc : Def K mg "check_program" s_check ["thing"] g gd) (Gc : FnOk P w K mg base (L2.CX P w) 6 g gd ["thing"] (spCk K C)) : FnOk P w K mg base (L2.CX P w) 7 f fd ["program"] (spShR K C) := by
  refine D.F.okX sc_show (fun vs H Q E ⟨b, d, _, hd, _⟩ => by rw [dps_len hd]; rfl) (fun cdv A outer s H vs Q E hr h => ?_)
  obtain ⟨b, d, kn, hd, ho, hp, q⟩ := h
  obtain ⟨v, d', rfl, e, h1⟩ := one_of hd rfl
  cases e
  refine ⟨_, pss_cons (ps_expr (pe_callS (E := WE fun cls d _ H => E cls d H) Gc hr rfl Dc.m Dc.F.kp Dc.b (fun σ => passAt (takes_of rfl rfl rfl rfl) σ) (pa_cons (pv 0) pa_nil)))
    (pss_cons ps_off (pss_cons ps_off (pss_one ps_off))), ?_⟩
  exact ⟨v, rfl, b, d, kn, .cons h1 .nil, ho, fun h => absurd (h.symm.trans hp) (by decide), fun _ H0 x0 => q H0 x0⟩
theorem ok_readR (D : Def K mg "read_program" s_read ["text"] f fd) (Dh : Def K mg "is_heading" s_heading ["words"] g gd) (Gh : FnOk P w K mg base CX0 2 g gd ["words"] (spP K HdPre hdF))
    (Dr : Def K mg "has_rows" s_hasrows ["parts"] g2 gd2) (Gr : FnOk P w K mg base CX0 1 g2 gd2 ["parts"] (spHas K)) (Dn : Def K mg "is_numbered" s_numbered ["word", "at"] g3 gd3) (Gn : FnOk P w K mg base CX0 1 g3 gd3 ["word", "at"] (spP K NbPre nbF))
    (Do : Def K mg "read_row" s_rrow ["words"] g4 gd4) (Go : FnOk P w K mg base CX0 5 g4 gd4 ["words"] (spP K RrPre rrF)) (Dc : Def K mg "check_program" s_check ["thing"] g5 gd5) (Gc : FnOk P w K mg base (L2.CX P w) 6 g5 gd5 ["thing"] (spCk K C)) (B : Blt mg) :
    FnOk P w K mg base (L2.CX P w) 7 f fd ["text"] (spRdR K C) := by
  refine D.F.okX sc_read (fun vs H Q E ⟨_, _, _, _, e, _⟩ => by rw [e]; rfl) (fun cdv A outer s H vs Q E hr h => ?_)
  obtain ⟨b, v, x, st, rfl, kn, h1, R, q⟩ := h
  have ev := dq_str h1
  subst ev
  refine ⟨_, pss_cons (ps_if (pt_not (pt_val (pe_callB call_isi rfl B.isi bb_isinstance (pa_cons (pv 0) (pa_cons (pe_tyN rfl B.str bt_str) pa_nil))))) (pss_one ps_off) pss_nil)
    (pss_cons (ps_set (i := 1) sc_read.nd rfl (Or.inl rfl) (pe_lst pa_nil))
    (pss_cons (ps_set (i := 2) sc_read.nd rfl (Or.inl rfl) (pe_bm PySem.F.plainAttrs_str PySem.F.slot_str_split PySem.F.type_str_split mt_splitD (pv 0) (pa_cons pe_str pa_nil)))
    (pss_cons (ps_for (passes_of rfl) rfl (pi_enum rfl B.enum (pa_cons (pv 2) pa_nil)) (pg_tup rfl (pgs_cons (pg_name (i := 3) sc_read.nd rfl (Or.inl rfl)) (pgs_cons (pg_name (i := 4) sc_read.nd rfl (Or.inl rfl)) pgs_nil))) (pss_cons (ps_set (i := 5) sc_read.nd rfl (Or.inl rfl) (pe_bm PySem.F.plainAttrs_str PySem.F.slot_str_split PySem.F.type_str_split mt_splitD (pv 4) (pa_cons pe_str pa_nil)))
    (pss_cons (ps_if (PW.pt (pw_and (pt_val (pe_cd Dh Gh (hr.mono (by decide)) (pa_cons (pv 5) pa_nil))) (pw_and1 (pt_val (pe_cd Dr Gr (hr.mono (by decide)) (pa_cons (pv 1) pa_nil)))))) (pss_cons (ps_expr (pe_bm PySem.F.plainAttrs_list PySem.F.slot_list_append PySem.F.type_list_append mt_append (pv 1) (pa_cons (pe_tupF (pa_cons (pe_ix ix_list (pv 5) pe_int (fun _ _ => rfl)) (pa_cons (pe_callTy call_tupF rfl B.tuple bt_tuple (pa_cons (pe_slice sl_list (pv 5) (po_some pe_int) po_none) pa_nil)) (pa_cons (pe_lst pa_nil) pa_nil)))) pa_nil)))
    (pss_one ps_continue)) pss_nil)
    (pss_cons (ps_set (i := 6) sc_read.nd rfl (Or.inl rfl) (pe_cd Do Go (hr.mono (by decide)) (pa_cons (pe_slice sl_list (pv 5) (po_some pe_int) po_none) pa_nil)))
    (pss_cons (ps_if (PW.pt (pw_or (pt_cmp (pc_isN (pv 6))) (pw_or (pt_not (pt_truth (pv 1) (fun _ => rfl))) (pw_or1 (pt_not (pt_val (pe_cd Dn Gn (hr.mono (by decide)) (pa_cons (pe_ix ix_list (pv 5) pe_int (fun _ _ => rfl)) (pa_cons (pe_callB call_lenD1 rfl B.len bb_len (pa_cons (pe_ix ix_tup (pe_ix ix_list (pv 1) (pe_un un_neg pe_int) (fun _ _ => rfl)) pe_int (fun _ _ => rfl)) pa_nil)) pa_nil))))))))) (pss_one ps_off) pss_nil)
    (pss_one (ps_expr (pe_bm PySem.F.plainAttrs_list PySem.F.slot_list_append PySem.F.type_list_append mt_append (pe_ix ix_tup (pe_ix ix_list (pv 1) (pe_un un_neg pe_int) (fun _ _ => rfl)) pe_int (fun _ _ => rfl)) (pa_cons (pv 6) pa_nil)))))))))
    (pss_cons (ps_if (pt_not (pt_val (pe_cd Dr Gr (hr.mono (by decide)) (pa_cons (pv 1) pa_nil)))) (pss_one ps_off) pss_nil)
    (pss_cons (ps_set (i := 7) sc_read.nd rfl (Or.inl rfl) (pe_callTy call_tupF rfl B.tuple bt_tuple (pa_cons (pe_lc (own := [("name", 8), ("names", 9), ("rows", 10)]) (g := gTup K 3 (gCons (gName 8) (gCons (gName 9) (gCons (gName 10) gNil)))) (tt := tYes) rfl sc_read.nd (pi_list (pv 1)) (blkOk_by (N := NRd) (sc := defScope s_read) (by decide +kernel)) (fun _ _ _ _ _ => (pg_tup rfl (pgs_cons (pg_name (i := 8) sc_read.nd rfl (Or.inl rfl)) (pgs_cons (pg_name (i := 9) sc_read.nd rfl (Or.inl rfl)) (pgs_cons (pg_name (i := 10) sc_read.nd rfl (Or.inl rfl)) pgs_nil))))) (fun _ _ _ _ _ => pts_nil) (fun _ _ _ _ _ => (pe_tupF (pa_cons (pv 8) (pa_cons (pv 9) (pa_cons (pe_callTy (r := rTupOf K) call_tupF rfl B.tuple bt_tuple (pa_cons (pv 10) pa_nil)) pa_nil)))))) pa_nil)))
    (pss_cons (ps_expr (pe_callS (E := WE fun cls d _ H => E cls d H) Gc hr rfl Dc.m Dc.F.kp Dc.b (fun σ => passAt (takes_of rfl rfl rfl rfl) σ) (pa_cons (pv 7) pa_nil)))
    (pss_one (ps_ret (pv 7))))))))), ?_⟩
  have hsl : sizeLine = 16777216 := sizeLine_eq
  have t1 := et_n (et_b (ed_isi (K := K) (b := b) (σ := start NRd [.str x]) (H := H) (T := "str") (.inr (.inr (.inl rfl))) (ed_var (i := 0) rfl h1)))
  refine g_ifF t1 fun H1 x1 => ?_
  refine ⟨by decide, fun Ap hAp => ?_⟩
  -- parts = []
  have x2 : Ex H (upd H1 Ap (.lst [])) := x1.trans (Ex.new hAp)
  have hA0 : H Ap = none := by
    cases z : H Ap with
    | none => rfl
    | some o => rw [x1 _ _ z] at hAp; cases hAp
  have eA : (upd H1 Ap (.lst [])) Ap = some (.lst []) := upd_same
  generalize upd H1 Ap (.lst []) = H2 at x2 eA
  have kn2 : Kn (Ap :: b) H2 := fun z hz => by
    rcases List.mem_cons.mp hz with rfl | hz
    · rw [eA]; intro q; cases q
    · exact kn.up x2 z hz
  -- lines = text.split
  refine g_set (ed_split (K := K) (b := Ap :: b) (σ := [some (.str x), some (.ref Ap), none, none, none, none, none, none, none, none, none]) (H := H2) kn2 (ed_var (i := 0) rfl (.str x)) (ed_str (x := "\n")) (by decide +kernel) (by have := R.len; omega)) fun vl H3 x3 hvl => ?_
  have x23 := x2.trans x3
  have eA3 := x3 _ _ eA
  have hvl : Dq K (Ap :: b) H3 vl (.list ((Txt.split x ln1).map .str)) := hvl
  have hall := R.all
  have hwd := R.wd
  have hls := R.ls
  generalize Txt.split x ln1 = ls at hvl hall hwd hls
  cases hvl with
  | @lst PL xs _ gL1 gL2 =>
  have exs := dps_strs gL2
  subst exs
  refine ⟨.ref PL, rfl, PL, _, rfl, ex_l hid_le gL1, ?_⟩
  refine for_it (walk_enum (K := K) (xs := ls.map V.str)) (fun i σ' H' => ∃ (b' : List Addr) (cs : List (Addr × Addr)) (sti : List Pt) (u3 u4 u5 u6 : Option V), σ' = [some (.str x), some (.ref Ap), some (.ref PL), u3, u4, u5, u6, none, none, none, none] ∧ Ex H H' ∧ (∀ z ∈ b, z ∈ b') ∧ (∀ c ∈ cs, H c.2 = none) ∧ PartsI K b' H' Ap cs sti ∧ SqL K (hid b' H') PL (ls.map V.str) ∧ readAll sti (ls.drop i) = some st ∧ sti.length ≤ i)
    ⟨Ap :: b, [], [], none, none, none, none, rfl, x23, fun z hz => List.mem_cons_of_mem _ hz, (fun c hc => by cases hc), ⟨kn2.up x3, eA3, List.mem_cons_self, (fun c hc => by cases hc), List.nodup_nil, (fun c hc => by cases hc), rfl, (fun i c p hc => by cases hc)⟩, gL1, hall, Nat.le_refl 0⟩ ?_ ?_ ?_
  · intro i σ' H' _ ⟨b', cs, sti, u3, u4, u5, u6, es, xx, hb, hn, I, hL, hrd, hsi⟩
    exact ex_l hid_le hL
  · intro i xv σ' H4 H4' hi ⟨b', cs, sti, u3, u4, u5, u6, es, xx, hb, hn, I, hL, hrd, hsi⟩ ⟨T, y1, y2, e1, e2, e3, e4, e5⟩
    subst es e1 e3
    have ey1 : y1 = .int (i : Nat) := (Option.some.inj e4).symm
    subst ey1
    rw [List.length_map] at hi
    obtain ⟨l, hl⟩ : ∃ l, ls[i]? = some l := ⟨_, List.getElem?_eq_getElem hi⟩
    have ey2 : y2 = .str l := by
      have e5 : (ls.map V.str)[i]? = some y2 := e5
      rw [List.getElem?_map, hl] at e5
      exact (Option.some.inj e5).symm
    subst ey2
    have hlm := List.mem_of_getElem? hl
    obtain ⟨hll, hne, hwl, hwk⟩ := hwd l hlm
    have hdr : ls.drop i = l :: ls.drop (i + 1) := by
      obtain ⟨hlt, e⟩ := List.getElem?_eq_some_iff.mp hl
      rw [List.drop_eq_getElem_cons hlt, e]
    rw [hdr] at hrd
    have hrd : (match stepL sti l with | none => none | some st' => readAll st' (ls.drop (i + 1))) = some st := hrd
    obtain ⟨s', hs', hrd'⟩ : ∃ s', stepL sti l = some s' ∧ readAll s' (ls.drop (i + 1)) = some st := by
      cases z : stepL sti l with
      | none => rw [z] at hrd; cases hrd
      | some s' => rw [z] at hrd; exact ⟨s', rfl, hrd⟩
    have xT := Ex.new (o := HO.tup [.int (i : Nat), .str l]) e2
    have hT : (upd H4 T (.tup [.int (i : Nat), .str l])) T = some (.tup [.int (i : Nat), .str l]) := upd_same
    generalize upd H4 T (.tup [.int (i : Nat), .str l]) = H5 at xT hT
    have I5 := I.up xT
    refine ⟨T, _, rfl, .inl (.inl hT), rfl, _, _, rfl, _, _, rfl, rfl, ?_⟩
    refine g_set (ed_split (K := K) (b := b') (σ := [some (.str x), some (.ref Ap), some (.ref PL), some (.int (i : Nat)), some (.str l), u5, u6, none, none, none, none]) (H := H5) I5.kn (ed_var (i := 4) rfl (.str l)) (ed_str (x := " ")) (by decide +kernel) (by omega)) fun vw H6 x6 hvw => ?_
    have hvw : Dq K b' H6 vw (.list ((Txt.split l bl1).map .str)) := hvw
    have hinv := stepL_inv hs'
    generalize hws : Txt.split l bl1 = ws at hvw hinv hne hwl hwk
    have I6 := I5.up x6
    have xx6 := (xx.trans xT).trans x6
    have hL6 := ex_l (hid_ex x6) (ex_l (hid_ex xT) hL)
    -- is_heading(words) and has_rows(parts)
    have tH := et_b (ed_call (K := K) (b := b') (σ := [some (.str x), some (.ref Ap), some (.ref PL), some (.int (i : Nat)), some (.str l), some vw, u6, none, none, none, none]) (H := H6) (pre := HdPre) (f := hdF) (E := E0) I6.kn (ea_cons (ed_var (i := 5) rfl hvw) ea_nil) ⟨ws, rfl, hne, hwl, hwk⟩ |>.to (e := .bool (isHead ws)) (by
      show PyData.bool (isHead (strsOf (ws.map .str))) = _
      rw [strsOf_map]))
    have tR : EvT (tB (tCall (spHas K) [] E0 (tCons (tVar 1) tNil))) [some (.str x), some (.ref Ap), some (.ref PL), some (.int (i : Nat)), some (.str l), some vw, u6, none, none, none, none] H6 (hasRows sti) := fun H7 x7 Q' q' => ⟨.ref Ap, rfl, Ap, b', cs, sti, rfl, I6.up x7, fun H8 x8 => ⟨_, rfl, q' H8 x8⟩⟩
    have tt := et_and tH fun _ => tR
    obtain ⟨w1, wr, ew⟩ : ∃ w1 wr, ws = w1 :: wr := by
      cases ws with
      | nil => exact absurd rfl hne
      | cons a r => exact ⟨a, r, rfl⟩
    rcases hinv with ⟨hh, es'⟩ | ⟨hh, st0, p, r, est, hrr, hn100, htw, es'⟩
    · rw [hh] at tt
      refine g_ifT tt fun H7 x7 => ?_
      have I7 := I6.up x7
      have hvw7 := Dq.up hvw x7
      rw [Bool.and_eq_true] at hh
      obtain ⟨w2, wr2, ew2⟩ : ∃ w2 wr2, wr = w2 :: wr2 := by
        rw [ew] at hh
        cases wr with
        | nil => cases hh.1
        | cons a r => exact ⟨a, r, rfl⟩
      subst ew ew2
      subst es'
      -- the tuple
      have i1 := ed_ixL (K := K) (b := b') (σ := [some (.str x), some (.ref Ap), some (.ref PL), some (.int (i : Nat)), some (.str l), some vw, u6, none, none, none, none]) (H := H7) (ed_var (i := 5) rfl hvw7) (ed_int (i := 1)) (show atI (PyData.str w1 :: .str w2 :: wr2.map .str) 1 = some (.str w2) from atI_nat (j := 1) rfl)
      have sl := (ed_slL (K := K) (b := b') (σ := [some (.str x), some (.ref Ap), some (.ref PL), some (.int (i : Nat)), some (.str l), some vw, u6, none, none, none, none]) (H := H7) I7.kn (ed_var (i := 5) rfl hvw7) (eo_some (K := K) (b := b') (ed_int (i := 2))) eo_none).to (e := .list (wr2.map .str)) (by
        show PyData.list (cutD ((w1 :: w2 :: wr2).map PyData.str) (some ((2 : Nat) : Int)) none) = _
        rw [cut_from]
        rfl)
      refine ⟨.ref Ap, rfl, .inl ⟨rfl, _, .inl (.inl I7.a)⟩, ?_⟩
      refine i1 H7 (Ex.refl H7) _ fun v1 H8 x8 hv1 => sl H8 x8 _ fun v2 H9 x9 hv2 => ?_
      have ev1 := dq_str hv1
      subst ev1
      cases hv2 with
      | @lst p2 us2 _ k1 k2 =>
      refine ⟨p2, us2, rfl, ex_l hid_le k1, fun Nn o1 hNn ho1 => ⟨by decide, fun L hL' => ⟨by show 3 ≤ sizeLine; decide, fun Tt o2 hTt ho2 => ?_⟩⟩⟩
      have kn9 := I7.kn.up (x8.trans x9)
      have dN : Dq K b' (upd H9 Nn (.frz o1 (.tup us2))) (.ref Nn) (.tuple (wr2.map .str)) := dq_newT kn9 hNn ho1 k2
      have xN := Ex.new (o := HO.frz o1 (.tup us2)) hNn
      generalize upd H9 Nn (.frz o1 (.tup us2)) = HN at dN xN hL' hTt
      have xAN := (x8.trans x9).trans xN
      have INn := I7.up xAN
      have hLn : L ∉ b' := INn.kn.new hL'
      have xL := Ex.new (o := HO.lst []) hL'
      have eL : (upd HN L (.lst [])) L = some (.lst []) := upd_same
      have dN2 : Dq K (L :: b') (upd HN L (.lst [])) (.ref Nn) (.tuple (wr2.map .str)) := dp_ex (hid_ex xL) _ _ (Dq.hide dN hL')
      have hLL : SqL K (hid (L :: b') (upd HN L (.lst []))) PL (ls.map V.str) := ex_l (hid_ex xL) (ex_l (hide_ex hL') (ex_l (hid_ex (x7.trans xAN)) hL6))
      have cellL : ∀ (j : Nat) (c : Addr × Addr) (p : Pt), cs[j]? = some c → sti[j]? = some p → Cell K (L :: b') (upd HN L (.lst [])) c p := fun j c p hc hp => by
        obtain ⟨v2, us, f1, f2, f3, f4⟩ := INn.cell j c p hc hp
        exact ⟨v2, us, ex_t (hid_ex xL) (ex_t (hide_ex hL') f1), dp_ex (hid_ex xL) _ _ (Dq.hide f2 hL'), xL _ _ f3, dps_ex (hid_ex xL) _ _ (dps_ex (hide_ex hL') _ _ f4)⟩
      have hA1 := xL _ _ INn.a
      have knL : Kn (L :: b') (upd HN L (.lst [])) := fun z hz => by
        rcases List.mem_cons.mp hz with rfl | hz
        · rw [eL]; intro q; cases q
        · exact INn.kn.up xL z hz
      have hH0 : H L = none := by
        cases z : H L with
        | none => rfl
        | some o => rw [((xx6.trans x7).trans xAN) _ _ z] at hL'; cases hL'
      have xxL := ((xx6.trans x7).trans xAN).trans xL
      generalize upd HN L (.lst []) = HL at hTt xL eL dN2 hLL cellL hA1 knL xxL
      have hTn : Tt ∉ L :: b' := knL.new hTt
      have xT2 := Ex.new (o := HO.frz o2 (.tup [.str w2, .ref Nn, .ref L])) hTt
      have eT : hid (L :: b') (upd HL Tt (.frz o2 (.tup [.str w2, .ref Nn, .ref L]))) Tt = some (.frz o2 (.tup [.str w2, .ref Nn, .ref L])) := hid_new hTn
      have xxT := xxL.trans xT2
      have hA2 := xT2 _ _ hA1
      have eL2 := xT2 _ _ eL
      have dN3 := Dq.up dN2 xT2
      have hLT := ex_l (hid_ex xT2) hLL
      have knT := knL.up xT2
      have cellT : ∀ (j : Nat) (c : Addr × Addr) (p : Pt), cs[j]? = some c → sti[j]? = some p → Cell K (L :: b') (upd HL Tt (.frz o2 (.tup [.str w2, .ref Nn, .ref L]))) c p := fun j c p hc hp => by
        obtain ⟨v2, us, f1, f2, f3, f4⟩ := cellL j c p hc hp
        exact ⟨v2, us, ex_t (hid_ex xT2) f1, Dq.up f2 xT2, xT2 _ _ f3, DqAll.up f4 xT2⟩
      generalize upd HL Tt (.frz o2 (.tup [.str w2, .ref Nn, .ref L])) = HT at eT xxT hA2 eL2 dN3 hLT knT cellT
      have hcl : cs.length ≤ 100000 := by
        have := I.len
        omega
      refine ⟨Ap, _, .ref Tt, rfl, rfl, hA2, by rw [List.length_map]; omega, ?_⟩
      have hAb : Ap ∈ L :: b' := List.mem_cons_of_mem _ I.ab
      have hLA : L ≠ Ap := fun z => hLn (by rw [z]; exact I.ab)
      refine ⟨L :: b', cs ++ [(Tt, L)], _, _, _, _, _, rfl, Ex.mut xxT hA0, fun z hz => List.mem_cons_of_mem _ (hb z hz), ?_, ⟨?_, ?_, hAb, ?_, ?_, ?_, ?_, ?_⟩, ?_, hrd', by rw [List.length_append]; exact Nat.add_le_add_right hsi 1⟩
      · intro c hc
        rcases List.mem_append.mp hc with hc | hc
        · exact hn c hc
        · rw [List.mem_singleton.mp hc]
          exact hH0
      · intro z hz
        by_cases e : z = Ap
        · rw [e, upd_same]; intro q; cases q
        · rw [upd_ne e]
          exact knT z hz
      · rw [upd_same, List.map_append]
        rfl
      · intro c hc
        rcases List.mem_append.mp hc with hc | hc
        · exact List.mem_cons_of_mem _ (I.lb c hc)
        · rw [List.mem_singleton.mp hc]
          exact List.mem_cons_self
      · rw [List.map_append, List.nodup_append]
        refine ⟨I.nd, by simp, ?_⟩
        intro z hz z' hz' e
        have ez : z' = L := List.mem_singleton.mp hz'
        obtain ⟨c, hc, ec⟩ := List.mem_map.mp hz
        exact hLn (by rw [← ez, ← e, ← ec]; exact I.lb c hc)
      · intro c hc
        rcases List.mem_append.mp hc with hc | hc
        · exact I.an c hc
        · rw [List.mem_singleton.mp hc]
          exact hLA
      · rw [List.length_append, List.length_append, I.len]
        rfl
      · intro j c p hc hp
        have hLAe : (upd HT Ap (.lst ((cs.map fun c => V.ref c.1) ++ [.ref Tt]))) L = HT L := upd_ne hLA
        by_cases hj : j < cs.length
        · rw [List.getElem?_append_left hj] at hc
          rw [List.getElem?_append_left (by rw [← I.len]; exact hj)] at hp
          obtain ⟨v2, us, f1, f2, f3, f4⟩ := cellT j c p hc hp
          refine ⟨v2, us, ?_, ?_, ?_, ?_⟩
          · rw [hid_upd hAb]; exact f1
          · show Dd K (hid _ _) _ _
            rw [hid_upd hAb]; exact f2
          · rw [upd_ne (I.an c (List.mem_of_getElem? hc))]; exact f3
          · show DdAll K (hid _ _) _ _
            rw [hid_upd hAb]; exact f4
        · rw [List.getElem?_append_right (by omega)] at hc
          rw [List.getElem?_append_right (by rw [← I.len]; omega)] at hp
          have hj0 : j - cs.length = 0 := by
            by_cases hz : j - cs.length = 0
            · exact hz
            · rw [List.getElem?_eq_none (by rw [List.length_singleton]; omega)] at hc
              cases hc
          rw [hj0] at hc
          rw [← I.len, hj0] at hp
          have ec : (Tt, L) = c := Option.some.inj hc
          have ep := Option.some.inj hp
          subst ec ep
          refine ⟨.ref Nn, [], ?_, ?_, ?_, .nil⟩
          · rw [hid_upd hAb]; exact .inl (.inr ⟨_, eT⟩)
          · show Dd K (hid _ _) _ _
            rw [hid_upd hAb]; exact dN3
          · rw [upd_ne hLA]; exact eL2
      · rw [hid_upd hAb]
        exact hLT
    · rw [hh] at tt
      refine g_ifF tt fun H7 x7 => ?_
      have I7 := I6.up x7
      have hvw7 := Dq.up hvw x7
      subst ew est
      have hrr : readRow wr = some r := hrr
      have htw : w1 = twoS p.rows.length := htw
      have sl := (ed_slL (K := K) (b := b') (σ := [some (.str x), some (.ref Ap), some (.ref PL), some (.int (i : Nat)), some (.str l), some vw, u6, none, none, none, none]) (H := H7) I7.kn (ed_var (i := 5) rfl hvw7) (eo_some (K := K) (b := b') (ed_int (i := 1))) eo_none).to (e := .list (wr.map .str)) (by
        show PyData.list (cutD ((w1 :: wr).map PyData.str) (some ((1 : Nat) : Int)) none) = _
        rw [cut_from]
        rfl)
      refine g_set ((ed_call (K := K) (b := b') (pre := RrPre) (f := rrF) (E := E0) I7.kn (ea_cons sl ea_nil) ⟨wr, rfl, fun y hy => hwk y (List.mem_cons_of_mem _ hy)⟩).to (e := r.d) (by
        show rwO (readRow (strsOf (wr.map .str))) = _
        rw [strsOf_map, hrr]
        rfl)) fun vr H8 x8 hvr => ?_
      have I8 := I7.up x8
      have hvw8 := Dq.up hvw7 x8
      obtain ⟨cs0, c, ecs, hl0, vn, us, g1, g2, g3, g4⟩ := I8.last
      subst ecs
      have lus : us.length = p.rows.length := by rw [dps_len g4, List.length_map]
      have hA8 : SqL K H8 Ap ((cs0.map fun c => V.ref c.1) ++ [.ref c.1]) := by
        have := I8.a
        rw [List.map_append] at this
        exact .inl (.inl this)
      have lenE : ∀ H9, Ex H8 H9 → ED K b' (tCB (rLen K) (tCons (tOp (rIxT K) (tOp (rIxL K) (tVar 1) (tUn (rU fun i => .int (-i)) (tC (.int 1)))) (tC (.int 2))) tNil)) [some (.str x), some (.ref Ap), some (.ref PL), some (.int (i : Nat)), some (.str l), some vw, some vr, none, none, none, none] H9 (.int (p.rows.length : Nat)) := fun H9 x9 H10 x10 Q' q' => by
        have xa := x9.trans x10
        refine ⟨.ref Ap, rfl, 1, rfl, Ap, _, -1, .ref c.1, rfl, rfl, ex_l xa hA8, atI_neg1 _ _, c.1, _, 2, .ref c.2, rfl, rfl, ex_t xa (ex_t hid_le g1), rfl, .ref c.2, us.length, rfl, .inl ⟨us, .inl (.inl (xa _ _ g3)), rfl⟩, ?_⟩
        rw [lus]
        exact q' _ H10 (Ex.refl H10) (.int _)
      have tN := et_b (ed_isN (K := K) (b := b') (σ := [some (.str x), some (.ref Ap), some (.ref PL), some (.int (i : Nat)), some (.str l), some vw, some vr, none, none, none, none]) (H := H8) (ed_var (i := 6) rfl hvr))
      rw [rw_notN] at tN
      have tP : EvT (fun σ H Q => tVar 1 σ H fun x H' => ∃ k, TruV K x H' k ∧ Q k H') [some (.str x), some (.ref Ap), some (.ref PL), some (.int (i : Nat)), some (.str l), some vw, some vr, none, none, none, none] H8 true := fun H9 x9 Q' q' => ⟨.ref Ap, rfl, true, .inl ⟨_, ex_l x9 hA8, by simp⟩, q' H9 (Ex.refl H9)⟩
      have tP := et_n tP
      have i0 := ed_ixL (K := K) (b := b') (σ := [some (.str x), some (.ref Ap), some (.ref PL), some (.int (i : Nat)), some (.str l), some vw, some vr, none, none, none, none]) (H := H8) (ed_var (i := 5) rfl hvw8) (ed_int (i := 0)) (show atI (PyData.str w1 :: wr.map .str) 0 = some (.str w1) from atI_nat (j := 0) rfl)
      have tM := et_n (et_b ((ed_call (K := K) (b := b') (pre := NbPre) (f := nbF) (E := E0) I8.kn (ea_cons i0 (ea_cons (lenE H8 (Ex.refl H8)) ea_nil)) ⟨w1, p.rows.length, rfl⟩).to (e := .bool true) (by
        show PyData.bool (decide (((p.rows.length : Nat) : Int).toNat < 100) && decide (w1 = twoS ((p.rows.length : Nat) : Int).toNat)) = _
        rw [show ((p.rows.length : Nat) : Int).toNat = p.rows.length from rfl, decide_eq_true hn100, decide_eq_true htw]
        rfl)))
      have tO := et_or tP fun _ => tM
      have tA := et_or tN fun _ => tO
      refine g_ifF tA fun H9 x9 => ?_
      have I9 := I8.up x9
      have hA9 := ex_l x9 hA8
      have g1' := ex_t (hid_ex x9) g1
      have g3' := x9 _ _ g3
      have hvr9 := Dq.up hvr x9
      have x79 := (x7.trans x8).trans x9
      have hcm : c ∈ cs0 ++ [c] := List.mem_append.mpr (.inr (List.mem_singleton.mpr rfl))
      have hcb : c.2 ∈ b' := I.lb c hcm
      have hcA : c.2 ≠ Ap := I.an c hcm
      refine ⟨.ref Ap, rfl, 1, rfl, Ap, _, -1, .ref c.1, rfl, rfl, hA9, atI_neg1 _ _, c.1, _, 2, .ref c.2, rfl, rfl, ex_t hid_le g1', rfl, .inl ⟨rfl, us, .inl (.inl g3')⟩, vr, rfl, c.2, us, vr, rfl, rfl, g3', by omega, ?_⟩
      subst es'
      refine ⟨b', cs0 ++ [c], _, _, _, _, _, rfl, Ex.mut (xx6.trans x79) (hn c hcm), hb, hn, ⟨?_, ?_, I.ab, I.lb, I.nd, I.an, ?_, ?_⟩, ?_, hrd', ?_⟩
      · intro z hz
        by_cases e : z = c.2
        · rw [e, upd_same]; intro q; cases q
        · rw [upd_ne e]
          exact I9.kn z hz
      · rw [upd_ne (Ne.symm hcA)]
        exact I9.a
      · rw [List.length_append, List.length_append, hl0]
        rfl
      · intro j c' p' hc' hp'
        by_cases hj : j < cs0.length
        · have hne' : c'.2 ≠ c.2 := fun e => by
            have nd := I.nd
            rw [List.map_append, List.nodup_append] at nd
            rw [List.getElem?_append_left hj] at hc'
            exact nd.2.2 c'.2 (List.mem_map.mpr ⟨c', List.mem_of_getElem? hc', rfl⟩) c.2 (List.mem_singleton.mpr rfl) e
          have hp2 : (st0 ++ [p])[j]? = some p' := by
            rw [List.getElem?_append_left (by omega)] at hp' ⊢
            exact hp'
          obtain ⟨v2, us', f1, f2, f3, f4⟩ := I9.cell j c' p' hc' hp2
          refine ⟨v2, us', ?_, ?_, ?_, ?_⟩
          · rw [hid_upd hcb]; exact f1
          · show Dd K (hid _ _) _ _
            rw [hid_upd hcb]; exact f2
          · rw [upd_ne hne']; exact f3
          · show DdAll K (hid _ _) _ _
            rw [hid_upd hcb]; exact f4
        · rw [List.getElem?_append_right (by omega)] at hc'
          rw [List.getElem?_append_right (by omega)] at hp'
          have hj0 : j - cs0.length = 0 := by
            by_cases hz : j - cs0.length = 0
            · exact hz
            · rw [List.getElem?_eq_none (by rw [List.length_singleton]; omega)] at hc'
              cases hc'
          rw [hj0] at hc'
          rw [← hl0, hj0] at hp'
          have ec := Option.some.inj hc'
          have ep := Option.some.inj hp'
          subst ec ep
          refine ⟨vn, us ++ [vr], ?_, ?_, upd_same, ?_⟩
          · rw [hid_upd hcb]; exact g1'
          · show Dd K (hid _ _) _ _
            rw [hid_upd hcb]; exact Dq.up g2 x9
          · show DdAll K (hid _ _) _ ((p.rows ++ [r]).map Rw.d)
            rw [hid_upd hcb, List.map_append]
            exact dps_app (DqAll.up g4 x9) (.cons hvr9 .nil)
      · rw [hid_upd hcb]
        exact ex_l (hid_ex x79) hL6
      · rw [List.length_append] at hsi ⊢
        exact Nat.le_succ_of_le hsi
  · intro σ' H4 ⟨b', cs, sti, u3, u4, u5, u6, es, xx, hb, hn, I, hL, hrd, hsi⟩
    subst es
    rw [List.length_map, List.drop_eq_nil_of_le (Nat.le_refl _)] at hrd
    rw [List.length_map] at hsi
    have est : sti = st := Option.some.inj hrd
    subst est
    have tR : EvT (tB (tCall (spHas K) [] E0 (tCons (tVar 1) tNil))) [some (.str x), some (.ref Ap), some (.ref PL), u3, u4, u5, u6, none, none, none, none] H4 (hasRows sti) := fun H7 x7 Q' q' => ⟨.ref Ap, rfl, Ap, b', cs, sti, rfl, I.up x7, fun H8 x8 => ⟨_, rfl, q' H8 x8⟩⟩
    have tR := et_n tR
    rw [R.has] at tR
    dsimp only
    refine g_ifF tR fun H5 x5 => ?_
    have I5 := I.up x5
    have xx5 := xx.trans x5
    refine ⟨.ref Ap, rfl, Ap, rfl, ⟨_, .inl (.inl I5.a)⟩, fun Dl hD => ?_⟩
    have Db : Dl ∉ b' := I5.kn.new hD
    have hlen := I5.len
    refine lc_it (walk_list (K := K) (xs := cs.map fun c => V.ref c.1)) (fun i H3 => Ex H5 H3 ∧ ∃ us, H3 Dl = some (.lst us) ∧ DqAll K (Dl :: b') H3 us ((sti.take i).map Pt.d)) ⟨Ex.new hD, [], upd_same, .nil⟩ (fun i H3 _ p => .inl (.inl (p.1 _ _ I5.a))) ?_ ?_
    · intro i xv H6 H6' hi ⟨x6, us, e1, e2⟩ ⟨eH, hx⟩
      subst eH
      rw [List.length_map] at hi
      obtain ⟨c, hc⟩ : ∃ c, cs[i]? = some c := ⟨_, List.getElem?_eq_getElem hi⟩
      obtain ⟨p, hp⟩ : ∃ p, sti[i]? = some p := ⟨_, List.getElem?_eq_getElem (by omega)⟩
      have ex : xv = .ref c.1 := by
        rw [List.getElem?_map, hc] at hx
        exact (Option.some.inj hx).symm
      subst ex
      obtain ⟨v2, us', k1, k2, k3, k4⟩ := I5.cell i c p hc hp
      have f1 := ex_t (hid_ex x6) k1
      have f3 := x6 _ _ k3
      refine ⟨c.1, _, rfl, ex_t hid_le f1, rfl, .str p.name, _, rfl, v2, _, rfl, .ref c.2, _, rfl, rfl, rfl, ?_⟩
      refine et_yes (H := H6') _ (Ex.refl _) _ fun H7 x7 => ?_
      rw [if_pos rfl]
      have x57 := x6.trans x7
      have kn7 : Kn (Dl :: b') H7 := fun z hz => by
        rcases List.mem_cons.mp hz with rfl | hz
        · rw [x7 _ _ e1]; intro q; cases q
        · exact I5.kn.up x57 z hz
      have hideD : ∀ {v : V} {d : PyData}, Dq K b' H5 v d → Dq K (Dl :: b') H7 v d := fun h => dp_ex (hid_ex x57) _ _ (Dq.hide h hD)
      refine ⟨.str p.name, rfl, v2, rfl, .ref c.2, rfl, c.2, us', rfl, .inl (.inl (x7 _ _ f3)), fun l o hl ho => ⟨by show 3 ≤ sizeLine; decide, fun pT o' hpT ho' => ?_⟩⟩
      have d4 : DqAll K (Dl :: b') H7 us' (p.rows.map Rw.d) := dps_ex (hid_ex x57) _ _ (dps_ex (hide_ex hD) _ _ k4)
      have dl : Dq K (Dl :: b') (upd H7 l (.frz o (.tup us'))) (.ref l) (.tuple (p.rows.map Rw.d)) := dq_newT kn7 hl ho d4
      have xl := Ex.new (o := HO.frz o (.tup us')) hl
      have dT := dq_newT (K := K) (b := Dl :: b') (ds := [.str p.name, .tuple (p.names.map .str), .tuple (p.rows.map Rw.d)]) (kn7.up xl) hpT ho' (.cons (.str p.name) (.cons (Dq.up (hideD k2) xl) (.cons dl .nil)))
      have xp := Ex.new (o := HO.frz o' (.tup [V.str p.name, v2, .ref l])) hpT
      have x7p := (x7.trans xl).trans xp
      have lus := dps_len e2
      rw [List.length_map, List.length_take] at lus
      refine ⟨us, x7p _ _ e1, by omega, Ex.mut (x6.trans x7p) hD, us ++ [.ref pT], upd_same, ?_⟩
      rw [List.take_add_one, hp, List.map_append]
      exact dps_ex put_ex _ _ (dps_app (DqAll.up e2 x7p) (.cons dT .nil))
    · intro H6 ⟨x6, us, e1, e2⟩
      rw [List.length_map, hlen, List.take_of_length_le (Nat.le_refl _)] at e2
      refine ⟨Dl, us, rfl, .inl (.inl e1), fun l o hl ho => ?_⟩
      have kn6 := I5.kn.up x6
      have e2' : DqAll K b' H6 us (sti.map Pt.d) := dps_ex show_ex _ _ e2
      have dP : Dq K b' (upd H6 l (.frz o (.tup us))) (.ref l) (prD sti) := dq_newT kn6 hl ho e2'
      have xl := Ex.new (o := HO.frz o (.tup us)) hl
      have kn7 := kn6.up xl
      have xx7 := (xx5.trans x6).trans xl
      generalize upd H6 l (.frz o (.tup us)) = H7 at dP xl kn7 xx7
      exact ⟨.ref l, rfl, b', _, kn7, .cons dP .nil, R.ok, fun hp => absurd (hp.symm.trans R.pg) (by decide), fun _ H8 x8 => q H8 (xx7.trans x8)⟩
end
end Wr

set_option Elab.async false
set_option linter.all false
set_option maxRecDepth 100000
set_option maxHeartbeats 4000000
namespace Wr
open PySem PySem.Spec PyProof.Rows L2 Evl TL
abbrev s_td : Stmt := topS 68
abbrev NTd : List Str := ["_law_deed", "_law_thing", "_law_others", "e"]
abbrev PTd : List Str := ["_law_deed", "_law_thing"]
theorem sc_td : FnScope NTd PTd (defScope s_td) := ⟨rfl, rfl, rfl, by decide +kernel, rfl, by decide +kernel, by decide +kernel⟩
theorem bt_ve : bootBuiltins "ValueError" = some (.type "ValueError") := by decide +kernel
def rIsEX (K : PySem.W.Frag) (C a : Addr) (cls : Value) (d : Option Addr) : List V → Hp → VK → Prop := fun xs H Q => cls = .ref C ∧ d = none ∧ rIsE K C a xs H Q
def rIsETX (K : PySem.W.Frag) (C a : Addr) (cls : Value) (d : Option Addr) : List V → Hp → VK → Prop := fun xs H Q => cls = .ref C ∧ d = none ∧ rIsET K C a xs H Q
theorem call_isEX {X : Cx} {a C : Addr} {oe : Obj} {cls : Value} {d : Option Addr} {pn : List (Addr × Obj)} (T : ExcC X.K C) (hz : Zc cls d oe) (hf : ∃ vs, oe.data = .fields vs) : CallR (X.suite a ((a, oe) :: pn)) (.builtin "isinstance") (rIsEX X.K C a cls d) := by
  intro pins s σ H xs us Q I r ⟨ec, ed, h⟩
  subst ec ed
  exact call_isE T hz hf pins s σ H xs us Q I r h
theorem call_isETX {X : Cx} {a C : Addr} {oe : Obj} {cls : Value} {d : Option Addr} {pn : List (Addr × Obj)} (T : ExcC X.K C) (hz : Zc cls d oe) (hf : ∃ vs, oe.data = .fields vs) : CallR (X.suite a ((a, oe) :: pn)) (.builtin "isinstance") (rIsETX X.K C a cls d) := by
  intro pins s σ H xs us Q I r ⟨ec, ed, h⟩
  subst ec ed
  exact call_isET T hz hf pins s σ H xs us Q I r h
/-- the other refusals -/
structure OthC (K : PySem.W.Frag) (mg : Str → Option Value) (C cU : Addr) (cs : List Addr) : Prop where
  len : cs.length = 10
  m0 : mg "NoHook" = some (.ref (cs.getD 0 0))
  m1 : mg "NoMark" = some (.ref (cs.getD 1 0))
  m2 : mg "NoNumbers" = some (.ref (cs.getD 2 0))
  m3 : mg "NoPart" = some (.ref (cs.getD 3 0))
  m4 : mg "NoRow" = some (.ref (cs.getD 4 0))
  m5 : mg "NoText" = some (.ref (cs.getD 5 0))
  m6 : mg "NoWord" = some (.ref (cs.getD 6 0))
  m7 : mg "TooLong" = some (.ref (cs.getD 7 0))
  m8 : mg "TooMany" = some (.ref (cs.getD 8 0))
  m9 : mg "Busy" = some (.ref (cs.getD 9 0))
  mU : mg "Unsound" = some (.ref cU)
  vE : mg "ValueError" = none
  any : PySem.W.kitAny K (.ref C) (cs.map Value.ref) = some false
  one : PySem.W.kitOne K (.ref C) (.type "ValueError") = some true
  un : PySem.W.kitOne K (.ref C) (.ref cU) = some false
/-- told by a def that raises or not -/
def spTd (K : PySem.W.Frag) (C fS : Addr) (sp : Sp) : Sp := fun vs H Q _ => ∃ v, vs = [.ref fS, v] ∧ sp [v] H Q fun cls d H' => cls = .ref C ∧ d = none ∧ ∀ H'', Ex H' H'' → Q .non H''
section
variable {P : Program} {w : World} {K : PySem.W.Frag} {mg : Str → Option Value} {base : Heap} {C cU fS f g : Addr} {cs : List Addr} {fd gd fdS : FuncData}
theorem ok_td {sp : Sp} {ps : List Str} (D : Def K mg "_law_told" s_td PTd f fd) (F : FnOk P w K mg base (L2.CX P w) 7 fS fdS ps sp) (kp : PySem.W.keepIn K (.ref fS) = true) (bd : Binds K fdS ps [])
    (T : NgC K mg C) (XT : ExcC K C) (O : OthC K mg C cU cs) (te : PySem.W.exmOne K (.ref C) (.ref C) = some true) (B : Blt mg) (hsp : ∀ v H (Q : VK) (E E' : XK), sp [v] H Q E → (∀ cls d H', E cls d H' → E' cls d H') → sp [v] H Q E') : FnOk P w K mg base CX0 8 f fd PTd (spTd K C fS sp) := by
  refine D.F.ok sc_td (fun vs H Q E ⟨_, e, _⟩ => by rw [e]; rfl) (fun cdv A outer s H vs Q E hr h => ?_)
  obtain ⟨v, rfl, h⟩ := h
  refine ⟨_, pss_one (ps_try_as (i := 3) rfl rfl sc_td.nd rfl rfl ⟨rfl, by decide, .inl T.m⟩ takes0
      (fun W pn xe tkk _ => pss_one (ps_ret (pe_callLS (i := 0) (E := WE W) F hr rfl (Or.inl rfl) kp bd (fun σ => passAt tkk σ) (pa_cons (pv 1) pa_nil))))
      (fun a oe cls d pn hz hf => pss_cons (ps_set (i := 2) sc_td.nd rfl (Or.inl rfl) (pe_callB (r := rIsETX K C a cls d) (call_isETX XT hz hf) rfl B.isi bb_isinstance (pa_cons (pv 3) (pa_cons (pe_tupF (pa_cons (pe_gR O.m0) (pa_cons (pe_gR O.m1) (pa_cons (pe_gR O.m2) (pa_cons (pe_gR O.m3) (pa_cons (pe_gR O.m4) (pa_cons (pe_gR O.m5) (pa_cons (pe_gR O.m6) (pa_cons (pe_gR O.m7) (pa_cons (pe_gR O.m8) (pa_cons (pe_gR O.m9) pa_nil))))))))))) pa_nil))))
        (pss_one (ps_ret (pe_ifExp (PW.pt (pw_and (pt_val (pe_callB (r := rIsEX K C a cls d) (call_isEX XT hz hf) rfl B.isi bb_isinstance (pa_cons (pv 3) (pa_cons (pe_tyN rfl O.vE bt_ve) pa_nil)))) (pw_and (pt_not (pt_val (pv 2))) (pw_and1 (pt_not (pt_val (pe_callB (r := rIsEX K C a cls d) (call_isEX XT hz hf) rfl B.isi bb_isinstance (pa_cons (pv 3) (pa_cons (pe_gR O.mU) pa_nil))))))))) pe_non pe_str))))), ?_⟩
  refine ⟨rfl, v, rfl, hsp v H _ _ _ h fun cls d H' ⟨ec, ed, q⟩ => ?_⟩
  subst ec ed
  refine ⟨true, te, fun _ a ha => ?_, fun z => nomatch z⟩
  have hsl : sizeLine = 16777216 := sizeLine_eq
  refine ⟨.ref a, rfl, by show 10 ≤ sizeLine; omega, fun t o ht ho => ⟨rfl, rfl, t, cs, false, rfl, ?_, O.any, ?_⟩⟩
  · have e : cs.map V.ref = [.ref (cs.getD 0 0), .ref (cs.getD 1 0), .ref (cs.getD 2 0), .ref (cs.getD 3 0), .ref (cs.getD 4 0), .ref (cs.getD 5 0), .ref (cs.getD 6 0), .ref (cs.getD 7 0), .ref (cs.getD 8 0), .ref (cs.getD 9 0)] := by
      match cs, O.len with
      | [_, _, _, _, _, _, _, _, _, _], _ => rfl
    rw [e]
    exact .inl (.inr ⟨_, upd_same⟩)
  · refine ⟨.ref a, rfl, rfl, rfl, .ty "ValueError", .type "ValueError", true, rfl, fun u hu => by cases hu; rfl, O.one, true, rfl, ?_⟩
    show (if true = true then _ else _)
    rw [if_pos rfl]
    refine ⟨.bl false, rfl, false, rfl, ?_⟩
    show (if (!false) = true then _ else _)
    rw [show (!false) = true from rfl, if_pos rfl]
    refine ⟨.ref a, rfl, rfl, rfl, .ref cU, .ref cU, false, rfl, fun u hu => by cases hu; rfl, O.un, false, rfl, ?_⟩
    show (if (!false) = true then _ else _)
    rw [show (!false) = true from rfl, if_pos rfl]
    exact q _ (Ex.new ht)
end
end Wr

set_option Elab.async false
set_option linter.all false
set_option maxRecDepth 100000
set_option maxHeartbeats 4000000
namespace Wr
open PySem PySem.Spec PyProof.Rows L2 Evl TL
/-! ### what is a program, part by part -/
theorem eqv_str {a : PyData} {x : Str} (h : PyData.eqv a (.str x) = true) : a = .str x := by
  cases hs : isD "str" a with
  | false => rw [eqv_nstr hs] at h; cases h
  | true =>
    obtain ⟨y, rfl⟩ := isD_str hs
    rw [strEq] at h
    rw [of_decide_eq_true h]
theorem inD_strs {a : PyData} {ws : List Str} (h : inD a (ws.map .str) = true) : ∃ w ∈ ws, a = .str w := by
  cases hs : isD "str" a with
  | false => rw [inD_nstr hs] at h; cases h
  | true =>
    obtain ⟨y, rfl⟩ := isD_str hs
    rw [inD_str] at h
    exact ⟨y, of_decide_eq_true h, rfl⟩
theorem row_view {r : PyData} {i m : Int} {xs : List Str} (h : rowD r i m xs = true) (hm : m ≤ 60) (hx : xs.all nameS = true) : ∃ q : Rw, r = q.d ∧ RwOk q := by
  cases r with
  | tuple ds =>
    match ds, h with
    | [a], h =>
      have h : inD a (loneW.map .str) = true := h
      obtain ⟨w, hw, rfl⟩ := inD_strs h
      exact ⟨.lone w, rfl, hw⟩
    | [a, c], h =>
      rw [rowD_two] at h
      by_cases h1 : PyData.eqv a (.str "put") = true
      · rw [if_pos h1] at h
        rw [eqv_str h1]
        cases c with
        | int k =>
          have h : (decide (-1000000000000 ≤ k) && decide (k ≤ 1000000000000)) = true := h
          rw [Bool.and_eq_true] at h
          have h2 := of_decide_eq_true h.1
          have h3 := of_decide_eq_true h.2
          exact ⟨.num "put" k, rfl, .inl ⟨rfl, by omega⟩⟩
        | _ => cases h
      · rw [if_neg h1] at h
        by_cases h2 : inD a (nameW.map .str) = true
        · rw [if_pos h2] at h
          obtain ⟨w, hw, rfl⟩ := inD_strs h2
          cases c with
          | str x => exact ⟨.nm w x, rfl, .inr hw, h⟩
          | _ => cases h
        · rw [if_neg h2] at h
          by_cases h3 : PyData.eqv a (.str "call") = true
          · rw [if_pos h3] at h
            rw [eqv_str h3]
            obtain ⟨x, hxm, rfl⟩ := inD_strs h
            exact ⟨.nm "call" x, rfl, .inl rfl, List.all_eq_true.mp hx x hxm⟩
          · rw [if_neg h3, Bool.and_eq_true, Bool.and_eq_true] at h
            obtain ⟨w, hw, rfl⟩ := inD_strs h.1
            cases c with
            | int k =>
              have h' : (decide (0 ≤ k) && decide (k < m)) = true := h.2.1
              rw [Bool.and_eq_true] at h'
              have h4 := of_decide_eq_true h'.1
              have h5 := of_decide_eq_true h'.2
              exact ⟨.num w k, rfl, .inr ⟨hw, h4, by omega⟩⟩
            | _ => cases h.2.1
    | _ :: _ :: _ :: _, h => cases h
  | _ => cases h
theorem list_view {α β : Type} {f : β → α} {C : β → Prop} : ∀ {l : List α}, (∀ x ∈ l, ∃ y, x = f y ∧ C y) → ∃ ys : List β, l = ys.map f ∧ ∀ y ∈ ys, C y
  | [], _ => ⟨[], rfl, fun y hy => by cases hy⟩
  | x :: l, h => by
    obtain ⟨y, rfl, hy⟩ := h x List.mem_cons_self
    obtain ⟨ys, rfl, hys⟩ := list_view fun z hz => h z (List.mem_cons_of_mem _ hz)
    refine ⟨y :: ys, rfl, fun z hz => ?_⟩
    rcases List.mem_cons.mp hz with rfl | hz
    · exact hy
    · exact hys z hz
theorem prog_view {d : PyData} (h : progD d = true) (ho : okD 30 d = true) : ∃ ps, d = prD ps ∧ GoodP ps := by
  obtain ⟨ds, rfl⟩ : ∃ ds, d = .tuple ds := by
    cases d <;> first | exact ⟨_, rfl⟩ | cases h
  obtain ⟨h1, h8, hh, _⟩ := prog_inv h
  have hst : (ds.map fst).all (isD "str") = true := List.all_eq_true.mpr fun z hz => by
    obtain ⟨p, hp, rfl⟩ := List.mem_map.mp hz
    obtain ⟨x', cs', e', rfl, _⟩ := headed_of (hh p hp).1
    rfl
  have ey := map_strsOf hst
  have hxs : (strsOf (ds.map fst)).all nameS = true := List.all_eq_true.mpr fun x hx => by
    have : PyData.str x ∈ ds.map fst := by
      rw [← ey]
      exact List.mem_map.mpr ⟨x, hx, rfl⟩
    obtain ⟨p, hp, ep⟩ := List.mem_map.mp this
    obtain ⟨x', cs', e', rfl, hn, _⟩ := headed_of (hh p hp).1
    have : PyData.str x' = .str x := ep
    injection this with this
    rw [← this]
    exact hn
  obtain ⟨ps, eps, hps⟩ := list_view (f := Pt.d) (C := PtOk) (l := ds) fun p hp => by
    obtain ⟨hp1, hp2, hp3⟩ := hh p hp
    obtain ⟨x, cs, e, rfl, hn, hns⟩ := headed_of hp1
    have hp2 : rows1 e = true := hp2
    have hp3 : rows2 e (strsOf (ds.map fst)) = true := hp3
    cases e with
    | tuple rs =>
      have hp2 : (decide (1 ≤ rs.length) && decide (rs.length ≤ 60)) = true := hp2
      rw [Bool.and_eq_true] at hp2
      have r1 := of_decide_eq_true hp2.1
      have r60 := of_decide_eq_true hp2.2
      have hns : (decide (cs.length ≤ 3) && (cs.all nameD && unlikeS (strsOf cs))) = true := hns
      rw [Bool.and_eq_true, Bool.and_eq_true] at hns
      obtain ⟨ys, ecs, hys⟩ := list_view (f := PyData.str) (C := fun x => nameS x = true) (l := cs) fun z hz => by
        have := List.all_eq_true.mp hns.2.1 z hz
        cases z with
        | str y => exact ⟨y, rfl, this⟩
        | _ => cases this
      obtain ⟨qs, ers, hqs⟩ := list_view (f := Rw.d) (C := RwOk) (l := rs) fun r hr => by
        obtain ⟨j, hj⟩ := List.mem_iff_getElem?.mp hr
        have hlt := (List.getElem?_eq_some_iff.mp hj).1
        have := List.all_eq_true.mp hp3 j (List.mem_range.mpr hlt)
        rw [List.getD_eq_getElem?_getD, hj] at this
        exact row_view this (by omega) hxs
      have lc := of_decide_eq_true hns.1
      refine ⟨⟨x, ys, qs⟩, by rw [ecs, ers]; rfl, hn, hys, ?_, fun z => ?_, ?_, hqs⟩
      · rw [ecs, List.length_map] at lc
        exact Nat.le_succ_of_le lc
      · have z : qs = [] := z
        rw [ers, z] at r1
        cases r1
      · rw [ers, List.length_map] at r60
        exact Nat.le_succ_of_le r60
    | _ => cases hp2
  subst eps
  exact ⟨ps, rfl, by rw [List.length_map] at h1; exact h1, by rw [List.length_map] at h8; exact h8, hps, h, ho⟩
section
variable {K : PySem.W.Frag} {b : List Addr} {σ : L2.St} {H H' : Hp} {ta tb te : TE} {t : TA} {d : PyData} {ds : List PyData} {E : XK}
theorem ed_neB {x y : Bool} (ha : ED K b ta σ H (.bool x)) (hb : ED K b tb σ H (.bool y)) : ED K b (tOp rNe ta tb) σ H (.bool (!decide (x = y))) :=
  ed_op ha hb fun H1 v u Q _ hx hy q => by
    have e1 := dq_bl hx
    have e2 := dq_bl hy
    subst e1 e2
    have e : decide (V.bl x = V.bl y) = decide (x = y) := by
      by_cases h : x = y
      · rw [decide_eq_true h, h, decide_eq_true rfl]
      · rw [decide_eq_false h, decide_eq_false fun z => h (by injection z)]
    refine ⟨rfl, ?_⟩
    rw [e]
    exact q _ H1 (Ex.refl H1) (.bl _)
theorem ed_wr {ps : List Pt} (kn : Kn b H) (ha : EA K b t σ H [prD ps]) (G : WelP ps) : ED K b (tCall (spWr K) [] E t) σ H (.str (showW numT ps)) := fun H1 x1 Q q =>
  ha H1 x1 _ fun vs H2 x2 hvs => by
    obtain ⟨v, d, rfl, ed, hv⟩ := one_of hvs rfl
    cases ed
    exact ⟨b, v, ps, rfl, kn.up (x1.trans x2), hv, G, fun u H3 x3 hu => q u H3 (x2.trans x3) hu⟩
end
/-- show_program's promise, of any thing -/
def spShX (K : PySem.W.Frag) (C : Addr) : Sp := fun vs H Q E => spSh K vs H Q E ∨ spShR K C vs H Q E
abbrev s_rt : Stmt := topS 69
abbrev NRt : List Str := ["_law_thing", "_law_good", "_law_kept", "_law_told_here", "_law_found"]
theorem sc_rt : FnScope NRt ["_law_thing"] (defScope s_rt) := ⟨rfl, rfl, rfl, by decide +kernel, rfl, by decide +kernel, by decide +kernel⟩
def spRt (K : PySem.W.Frag) : Sp := fun vs H Q _ => ∃ (b : List Addr) (v : V) (d : PyData), vs = [v] ∧ Kn b H ∧ Dq K b H v d ∧ okD 30 d = true ∧ szD d ≤ 16000000 ∧ ∀ H', Ex H H' → Q (.bl true) H'
section
variable {P : Program} {w : World} {K : PySem.W.Frag} {mg : Str → Option Value} {base : Heap} {C fS f g1 g2 g3 g4 : Addr} {fd fdS gd1 gd2 gd3 gd4 : FuncData}
theorem ok_rt (D : Def K mg "_law_right" s_rt ["_law_thing"] f fd) (Dp : Def K mg "_law_is_program" s_isp ["_law_thing"] g1 gd1) (Gp : FnOk P w K mg base CX0 3 g1 gd1 ["_law_thing"] (spP K ProgPre (F1 progD)))
    (Ds : Def K mg "show_program" s_show ["program"] fS fdS) (Dt : Def K mg "_law_told" s_td PTd g2 gd2) (Gt : FnOk P w K mg base CX0 8 g2 gd2 PTd (spTd K C fS (spShX K C)))
    (Di : Def K mg "is_program" s_is_program ["thing"] g3 gd3) (Gi : FnOk P w K mg base CX0 5 g3 gd3 ["thing"] (spP K ProgPre (F1 progD))) (Dw : Def K mg "_law_written" s_wr ["_law_program_here"] g4 gd4) (Gw : FnOk P w K mg base CX0 3 g4 gd4 ["_law_program_here"] (spWr K)) (B : Blt mg) (B2 : Blt2 mg) :
    FnG P w K mg base 9 f fd ["_law_thing"] (spRt K) := by
  refine D.okG sc_rt (fun vs H Q E ⟨_, _, _, e, _⟩ => by rw [e]; rfl) (fun cdv A outer s H vs Q E hg hr h => ?_)
  obtain ⟨b, v, d, rfl, kn, h1, ho, hz, q⟩ := h
  refine ⟨_, pss_cons (ps_set (i := 1) sc_rt.nd rfl (Or.inl rfl) (pe_cd Dp Gp (hr.mono (by decide)) (pa_cons (pv 0) pa_nil)))
    (pss_cons (ps_set (i := 2) sc_rt.nd rfl (Or.inl rfl) (pe_callB (call_reprD hg (hu64 hr)) rfl B2.repr bb_repr (pa_cons (pv 0) pa_nil)))
    (pss_cons (ps_set (i := 3) sc_rt.nd rfl (Or.inl rfl) (pe_cd Dt Gt hr (pa_cons (pe_gR Ds.m) (pa_cons (pv 0) pa_nil))))
    (pss_cons (ps_set (i := 4) sc_rt.nd rfl (Or.inl rfl) (pe_cd Di Gi (hr.mono (by decide)) (pa_cons (pv 0) pa_nil)))
    (pss_cons (ps_if (PW.pt (pw_or (pt_not (pt_val (pe_callB call_isi rfl B.isi bb_isinstance (pa_cons (pv 4) (pa_cons (pe_tyN rfl B.bool bt_bool) pa_nil))))) (pw_or (pt_cmpR op_ne (pv 4) (pv 1) (nomark _)) (pw_or1 (pt_cmpR op_ne (pe_callB (call_reprD hg (hu64 hr)) rfl B2.repr bb_repr (pa_cons (pv 0) pa_nil)) (pv 2) (nomark _)))))) (pss_one (ps_ret pe_bl)) pss_nil)
    (pss_one (ps_ret (pe_ifExp (pt_val (pv 1)) (pe_cmpR op_eq (pv 3) (pe_cd Dw Gw (hr.mono (by decide)) (pa_cons (pv 0) pa_nil)) (nomark _)) (pe_cmp (pc_isN (pv 3)))))))))), ?_⟩
  refine g_set ((ed_call (K := K) (b := b) (σ := start NRt [v]) (H := H) (pre := ProgPre) (f := F1 progD) (E := E0) kn (ea_cons (ed_var (i := 0) rfl h1) ea_nil) ⟨rfl, fun e h' => by cases h'; exact ho⟩).to (e := .bool (progD d)) rfl) fun v1 H1 x1 hv1 => ?_
  have e1 := dq_bl hv1
  subst e1
  have kn1 := kn.up x1
  refine g_set (ed_repr (K := K) (b := b) (ed_var (i := 0) rfl (Dq.up h1 x1)) ho hz) fun v2 H2 x2 hv2 => ?_
  have e2 := dq_str hv2
  subst e2
  have kn2 := kn1.up x2
  have h12 := Dq.up (Dq.up h1 x1) x2
  -- what show_program tells
  have key : ∀ v3 H3, Ex H2 H3 → (progD d = true → ∃ ps, d = prD ps ∧ GoodP ps ∧ Dq K b H3 v3 (.str (showW numT ps))) → (progD d = false → v3 = .non) →
      tSeq (tAsg (tCall (spP K ProgPre (F1 progD)) [] E0 (tCons (tVar 0) tNil)) (gName 4)) (tSeq (tIfS (tOr (tNot (tB (tCB (rIsi K) (tCons (tVar 4) (tCons (tC (.ty "bool")) tNil))))) (tOr (tTest (tOp rNe (tVar 4) (tVar 1))) (tTest (tOp rNe (tCB (rRepr K) (tCons (tVar 0) tNil)) (tVar 2))))) (tRet (tC (.bl false))) tNext)
        (tRet (tIf (tB (tVar 1)) (tOp rEq (tVar 3) (tCall (spWr K) [] E0 (tCons (tVar 0) tNil))) (tIsN (tVar 3))))) { nx := fun _ H' => Q .non H', rt := Q } [some v, some (.bl (progD d)), some (.str d.shown), some v3, none] H3 := fun v3 H3 x3 hy hn => by
    have kn3 := kn2.up x3
    have h13 := Dq.up h12 x3
    refine g_set ((ed_call (K := K) (b := b) (pre := ProgPre) (f := F1 progD) (E := E0) kn3 (ea_cons (ed_var (i := 0) rfl h13) ea_nil) ⟨rfl, fun e h' => by cases h'; exact ho⟩).to (e := .bool (progD d)) rfl) fun v4 H4 x4 hv4 => ?_
    have e4 := dq_bl hv4
    subst e4
    have h14 := Dq.up h13 x4
    have kn4 := kn3.up x4
    show tSeq _ _ _ [some v, some (.bl (progD d)), some (.str d.shown), some v3, some (.bl (progD d))] H4
    have t1 := et_n (et_b (ed_isi (K := K) (b := b) (σ := [some v, some (.bl (progD d)), some (.str d.shown), some v3, some (.bl (progD d))]) (H := H4) (T := "bool") (.inr (.inl rfl)) (ed_var (i := 4) rfl (.bl (progD d)))))
    have t2 := et_t (ed_neB (K := K) (b := b) (σ := [some v, some (.bl (progD d)), some (.str d.shown), some v3, some (.bl (progD d))]) (H := H4) (ed_var (i := 4) rfl (.bl (progD d))) (ed_var (i := 1) rfl (.bl (progD d))))
    have t3 := et_t (ed_neS (K := K) (b := b) (σ := [some v, some (.bl (progD d)), some (.str d.shown), some v3, some (.bl (progD d))]) (H := H4) (ed_repr (ed_var (i := 0) rfl h14) ho hz) (ed_var (i := 2) rfl (.str _)))
    rw [decide_eq_true rfl] at t2 t3
    have t23 := et_or t2 fun _ => t3
    have tt := et_or t1 fun _ => t23
    refine g_ifF tt fun H5 x5 => ?_
    have tg := et_b (ed_var (K := K) (b := b) (σ := [some v, some (.bl (progD d)), some (.str d.shown), some v3, some (.bl (progD d))]) (H := H5) (i := 1) rfl (.bl (progD d)))
    show tB (tVar 1) [some v, some (.bl (progD d)), some (.str d.shown), some v3, some (.bl (progD d))] H5 (fun c H1 => if c = true then (tOp rEq (tVar 3) (tCall (spWr K) [] E0 (tCons (tVar 0) tNil))) [some v, some (.bl (progD d)), some (.str d.shown), some v3, some (.bl (progD d))] H1 Q else (tIsN (tVar 3)) [some v, some (.bl (progD d)), some (.str d.shown), some v3, some (.bl (progD d))] H1 Q)
    refine tg H5 (Ex.refl H5) _ fun H6 x6 => ?_
    have x06 := (x1.trans x2).trans ((x3.trans x4).trans (x5.trans x6))
    cases hp : progD d with
    | true =>
      rw [if_pos rfl]
      obtain ⟨ps, ed, G, hv3⟩ := hy hp
      subst ed
      have x36 := x4.trans (x5.trans x6)
      refine (ed_eqS (K := K) (b := b) (ed_var (i := 3) rfl (Dq.up hv3 x36)) (ed_wr (E := E0) (kn3.up x36) (ea_cons (ed_var (i := 0) rfl (Dq.up h13 x36)) ea_nil) G.wel)) H6 (Ex.refl H6) _ fun v7 H7 x7 hv7 => ?_
      rw [dq_bl hv7, decide_eq_true rfl]
      exact q H7 (x06.trans x7)
    | false =>
      rw [if_neg Bool.false_ne_true]
      have e3 := hn hp
      subst e3
      exact ⟨.non, rfl, q H6 x06⟩
  refine ⟨v, rfl, v, rfl, ?_⟩
  rcases Bool.eq_false_or_eq_true (progD d) with hp | hp
  · obtain ⟨ps, ed, G⟩ := prog_view hp ho
    subst ed
    refine .inl ⟨b, v, ps, rfl, kn2, h12, G, fun u H3 x3 hu => ?_⟩
    exact key u H3 x3 (fun _ => ⟨ps, rfl, G, hu⟩) fun z => by rw [hp] at z; cases z
  · refine .inr ⟨b, d, kn2, .cons h12 .nil, ho, hp, fun H3 x3 => ⟨rfl, rfl, fun H4 x4 => ?_⟩⟩
    exact key .non H4 (x3.trans x4) (fun z => by rw [hp] at z; cases z) fun _ => rfl
end
end Wr

set_option Elab.async false
set_option linter.all false
set_option maxRecDepth 100000
set_option maxHeartbeats 4000000
namespace Wr
open PySem PySem.Spec PyProof.Rows L2 Evl TL
/-! ### a tuple of few things many times -/
def rRepF (K : PySem.W.Frag) : R2 := fun x y H Q => ∃ a n xs, x = .ref a ∧ y = .int (n : Nat) ∧ SqT K H a xs ∧ xs ≠ [] ∧ xs.length ≤ 1000 ∧ 2 ≤ n ∧ n ≤ 1000 ∧ ∀ p o, H p = none → o.dict = none → Q (.ref p) (upd H p (.frz o (.tup (List.replicate n xs).flatten)))
theorem op_repF {X : Cx} : OpR X (binaryOp .Mult) (rRepF X.K) := by
  intro pins s σ H x y v u Q I rx ry ⟨a, n, xs, e1, e2, ha, h0, hz, n2, n3, q⟩
  subst e1 e2
  cases rx
  obtain ⟨t, rfl⟩ := ry
  have hsl : sizeLine = 16777216 := sizeLine_eq
  obtain ⟨its, r, ⟨⟨cls, dd, data, sl⟩, ho, hc, nn, hd⟩, _⟩ := I.tuple ha
  dsimp only at hc hd
  subst hc hd
  have hl := r.length
  have he : its.toArray.isEmpty = false := by
    cases its with
    | nil => exact absurd (r.nil_iff.mp rfl) h0
    | cons _ _ => rfl
  have hb : n * its.length ≤ 1000000 := by
    rw [← hl]
    exact Nat.mul_le_mul n3 hz
  have hi : ((its.toArray.size : Nat) : Int) * ((n : Nat) : Int) ≤ 1000000 := by
    rw [List.size_toArray, Int.mul_comm]
    exact Int.ofNat_le.mpr hb
  have fl : ∀ {α : Type} (l : List α), (List.replicate n l).flatten.length = n * l.length := fun l => PyProof.Rows.lm_len_rep_flat ..
  have k4 : Builtin.Tuple.tupleTooMany (((its.toArray.size : Nat) : Int) * ((n : Nat) : Int)) = false := by
    unfold Builtin.Tuple.tupleTooMany
    rw [hsl]
    exact decide_eq_false (by omega)
  have k0 : (decide (((n : Nat) : Int) < -(2 ^ 63)) || decide (((n : Nat) : Int) ≥ 2 ^ 63)) = false := Bool.or_eq_false_iff.mpr ⟨decide_eq_false (by omega), decide_eq_false (by omega)⟩
  have k1 : (its.toArray.isEmpty || ((n : Nat) : Int) == 1) = false := Bool.or_eq_false_iff.mpr ⟨he, beq_eq_false_iff_ne.mpr (by omega)⟩
  have k2 : (decide (((n : Nat) : Int) ≤ 0) || its.toArray.isEmpty) = false := Bool.or_eq_false_iff.mpr ⟨decide_eq_false (by omega), he⟩
  have kz : (List.foldl (fun x1 x2 => x1 ++ x2) #[] (List.replicate ((n : Nat) : Int).toNat its.toArray)).size ≤ sizeLine := by
    rw [size_rep, List.size_toArray]
    show (List.replicate n its).flatten.length ≤ sizeLine
    rw [fl]
    omega
  have rm := int_rmul_tuple (n : Nat) t a its.toArray nn dd sl
  have tm := tuple_mulW a its.toArray nn dd sl (n : Nat) t k0 k1 k2 (by omega) k4 kz
  have ti := fun s' => typeIs_int s' ((n : Nat) : Int) t
  refine wpAny_binaryOp_repeat_ref (U := "int") (T := "tuple") (by decide) ⟨_, ho, rfl⟩ ti noFill_tuple_mul F.fills_int_mul F.slot_int_rmul repeat_tuple F.slot_int_index.lookup ?_
  refine call_meets F.slot_int_rmul (ti s) F.entry_int_rmul (F.args_int_rmul_2 _ _) rm ⟨ho, rfl, ⟨_, ho, rfl⟩, ?_⟩
  refine call_meets F.slot_tuple_mul ⟨_, ho, rfl⟩ F.entry_tuple_mul (F.args_tuple_mul_2 _ _) tm ⟨ho, ?_⟩
  rw [size_rep]
  exact ⟨.ref s.heap.objs.size, _, I.laid (t' := s.toks) (fun b ob q => Heap.get?_push_of_some _ q) (Nat.le_refl _) (frz_new (by show (List.replicate n xs).flatten.length ≤ sizeLine; rw [fl, hl]; omega) (r.rep n)), rfl, q _ _ (I.hok.fresh (Nat.le_refl _)) rfl⟩
theorem dps_rep {K : PySem.W.Frag} {H : Hp} {vs : List V} {ds : List PyData} (h : DdAll K H vs ds) : ∀ n : Nat, DdAll K H (List.replicate n vs).flatten (List.replicate n ds).flatten
  | 0 => .nil
  | n + 1 => by
    rw [List.replicate_succ, List.replicate_succ, List.flatten_cons, List.flatten_cons]
    exact dps_app h (dps_rep h n)
section
variable {K : PySem.W.Frag} {b : List Addr} {σ : L2.St} {H H' : Hp} {ta tb te : TE} {t : TA} {d : PyData} {ds es : List PyData} {E : XK} {D : Ends}
theorem ed_repF {n : Nat} (kn : Kn b H) (ha : ED K b ta σ H (.tuple ds)) (hb : ED K b tb σ H (.int (n : Nat))) (h0 : ds ≠ []) (hz : ds.length ≤ 1000) (n2 : 2 ≤ n) (n3 : n ≤ 1000) : ED K b (tOp (rRepF K) ta tb) σ H (.tuple (List.replicate n ds).flatten) :=
  ed_op ha hb fun H1 x y Q x1 hx hy q => by
    have ey := dq_int hy
    subst ey
    cases hx with
    | tup g1 gn g2 =>
      refine ⟨_, n, _, rfl, rfl, ex_t hid_le g1, fun e => h0 ?_, by rw [dps_len g2]; exact hz, n2, n3, fun p o hp ho => q _ _ (Ex.new hp) (dq_newT (kn.up x1) hp ho (dps_rep g2 n))⟩
      subst e
      cases g2
      rfl
theorem g_retC {i : Nat} {p : Addr} {vs : List V} (hs : σ[i]? = some (some (.ref p))) (hp : H p = some (.lst vs)) (hv : DqAll K b H vs ds) (he : EA K b t σ H es) (hl : ds.length + es.length ≤ sizeLine) (k : ∀ p' us H', Ex H H' → H' p' = some (.lst us) → DqAll K b H' us (ds ++ es) → D.rt (.ref p') H') : tRet (tOp rCat (tVar i) (tLst t)) D σ H :=
  ⟨.ref p, hs, he H (Ex.refl H) _ fun ws H1 x1 hw => ⟨by rw [dps_len hw]; omega, fun p1 hp1 => ⟨p, p1, vs, ws, rfl, rfl, Ex.new hp1 _ _ (x1 _ _ hp), upd_same, by rw [dps_len hv, dps_len hw]; exact hl, fun p2 hp2 => by
    have x2 := (Ex.new (o := HO.lst ws) hp1).trans (Ex.new (o := HO.lst (vs ++ ws)) hp2)
    exact k p2 (vs ++ ws) _ (x1.trans x2) upd_same (DqAll.up (dps_app (DqAll.up hv x1) hw) x2)⟩⟩⟩
end
/-! ### the things by hand -/
def addR : Rw := .lone "add"
def nine : List Str := ["a", "b", "c", "d", "e", "f", "g", "h", "i"]
def oneR (r : Rw) : List Pt := [⟨"a", [], [r]⟩]
def by1 : List (List Pt) := [[⟨"a", ["b", "c", "b"], [addR]⟩], [⟨"a", ["b", "c", "d", "e"], [addR]⟩], [⟨"a", [], [addR]⟩, ⟨"a", [], [addR]⟩]]
def by2 : List (List Pt) := [nine.map fun x => ⟨x, [], [addR]⟩]
def by3 : List (List Pt) := [[⟨"a", [], List.replicate 61 addR⟩], oneR (.num "go" 1), [⟨"a", [], [.num "try" 1, addR]⟩]]
def by4 : List (List Pt) := [oneR (.nm "call" "b"), oneR (.num "put" 1000000000001), oneR (.num "if" 60)]
def by5 : List (List Pt) := [[⟨"a", [], [addR]⟩, ⟨"b", [], [.num "put" (-1000000000000000000000000000000000000000)]⟩]]
def byL : List (List Pt) := (((by1 ++ by2) ++ by3) ++ by4) ++ by5
def rwB : Rw → Bool
  | .lone w => decide (w ∈ loneW)
  | .nm w x => (decide (w = "call") || decide (w ∈ nameW)) && nameS x
  | .num w i => (decide (w = "put") && decide (i.natAbs ≤ 1000000000000000000000000000000000000000)) || (decide (w ∈ rowW) && (decide (0 ≤ i) && decide (i ≤ 60)))
def ptB (p : Pt) : Bool := nameS p.name && (p.names.all nameS && (decide (p.names.length ≤ 4) && (!p.rows.isEmpty && (decide (p.rows.length ≤ 61) && p.rows.all rwB))))
def welB (ps : List Pt) : Bool := decide (1 ≤ ps.length) && (decide (ps.length ≤ 9) && ps.all ptB)
theorem rwB_ok {r : Rw} (h : rwB r = true) : RwOk r := by
  cases r with
  | lone w =>
    have h : decide (w ∈ loneW) = true := h
    have h : w ∈ loneW := of_decide_eq_true h
    exact h
  | nm w x =>
    have h : ((decide (w = "call") || decide (w ∈ nameW)) && nameS x) = true := h
    rw [Bool.and_eq_true, Bool.or_eq_true] at h
    exact ⟨h.1.imp of_decide_eq_true of_decide_eq_true, h.2⟩
  | num w i =>
    have h : ((decide (w = "put") && decide (i.natAbs ≤ 1000000000000000000000000000000000000000)) || (decide (w ∈ rowW) && (decide (0 ≤ i) && decide (i ≤ 60)))) = true := h
    rw [Bool.or_eq_true, Bool.and_eq_true, Bool.and_eq_true, Bool.and_eq_true] at h
    exact h.imp (fun z => ⟨of_decide_eq_true z.1, of_decide_eq_true z.2⟩) fun z => ⟨of_decide_eq_true z.1, of_decide_eq_true z.2.1, of_decide_eq_true z.2.2⟩
theorem ptB_ok {p : Pt} (h : ptB p = true) : PtOk p := by
  unfold ptB at h
  simp only [Bool.and_eq_true] at h
  obtain ⟨h1, h2, h3, h4, h5, h6⟩ := h
  refine ⟨h1, List.all_eq_true.mp h2, of_decide_eq_true h3, fun e => ?_, of_decide_eq_true h5, fun r hr => rwB_ok (List.all_eq_true.mp h6 r hr)⟩
  rw [e] at h4
  cases h4
theorem welB_ok {ps : List Pt} (h : welB ps = true) : WelP ps := by
  unfold welB at h
  simp only [Bool.and_eq_true] at h
  exact ⟨of_decide_eq_true h.1, of_decide_eq_true h.2.1, fun p hp => ptB_ok (List.all_eq_true.mp h.2.2 p hp)⟩
theorem by_all : (byL.all fun ps => welB ps && (okD 30 (prD ps) && (!progD (prD ps) && decide (szD (prD ps) ≤ 16000000)))) = true := by decide +kernel
theorem by_ok {ps : List Pt} (h : ps ∈ byL) : WelP ps ∧ okD 30 (prD ps) = true ∧ progD (prD ps) = false ∧ szD (prD ps) ≤ 16000000 := by
  have := List.all_eq_true.mp by_all ps h
  rw [Bool.and_eq_true, Bool.and_eq_true, Bool.and_eq_true] at this
  obtain ⟨h1, h2, h3, h4⟩ := this
  refine ⟨welB_ok h1, h2, ?_, of_decide_eq_true h4⟩
  cases z : progD (prD ps) with
  | false => rfl
  | true => rw [z] at h3; cases h3
abbrev s_bh : Stmt := topS 70
abbrev NBh : List Str := ["_law_add", "_law_some", "_law_name"]
theorem sc_bh : FnScope NBh [] (defScope s_bh) := ⟨rfl, rfl, rfl, by decide +kernel, rfl, by decide +kernel, by decide +kernel⟩
def spBh (K : PySem.W.Frag) : Sp := fun vs H Q _ => vs = [] ∧ ∀ p us H', Ex H H' → H' p = some (.lst us) → DqAll K [] H' us (byL.map prD) → Q (.ref p) H'
section
variable {P : Program} {w : World} {K : PySem.W.Frag} {mg : Str → Option Value} {base : Heap} {f : Addr} {fd : FuncData}
theorem ok_bh (D : Def K mg "_law_by_hand" s_bh [] f fd) (B : Blt mg) : FnOk P w K mg base CX0 1 f fd [] (spBh K) := by
  refine D.F.ok sc_bh (fun vs H Q E ⟨e, _⟩ => by rw [e]; rfl) (fun cdv A outer s H vs Q E hr h => ?_)
  obtain ⟨rfl, q⟩ := h
  refine ⟨_, pss_cons (ps_set (i := 0) sc_bh.nd rfl (Or.inr rfl) (pe_tupF (pa_cons (pe_tupF (pa_cons pe_str pa_nil)) pa_nil)))
    (pss_cons (ps_set (i := 1) sc_bh.nd rfl (Or.inl rfl) (pe_lst (pa_cons (pe_tupF (pa_cons (pe_tupF (pa_cons pe_str (pa_cons (pe_tupF (pa_cons pe_str (pa_cons pe_str (pa_cons pe_str pa_nil)))) (pa_cons (pv 0) pa_nil)))) pa_nil)) (pa_cons (pe_tupF (pa_cons (pe_tupF (pa_cons pe_str (pa_cons (pe_tupF (pa_cons pe_str (pa_cons pe_str (pa_cons pe_str (pa_cons pe_str pa_nil))))) (pa_cons (pv 0) pa_nil)))) pa_nil)) (pa_cons (pe_tupF (pa_cons (pe_tupF (pa_cons pe_str (pa_cons (pe_tupF pa_nil) (pa_cons (pv 0) pa_nil)))) (pa_cons (pe_tupF (pa_cons pe_str (pa_cons (pe_tupF pa_nil) (pa_cons (pv 0) pa_nil)))) pa_nil))) pa_nil)))))
    (pss_cons (ps_set (i := 1) sc_bh.nd rfl (Or.inl rfl) (pe_op op_cat (pv 1) (pe_lst (pa_cons (pe_callTy call_tupF rfl B.tuple bt_tuple (pa_cons (pe_lc (own := [("_law_name", 2)]) (g := gName 2) (tt := tYes) rfl sc_bh.nd (pi_list (pe_lst (pa_cons pe_str (pa_cons pe_str (pa_cons pe_str (pa_cons pe_str (pa_cons pe_str (pa_cons pe_str (pa_cons pe_str (pa_cons pe_str (pa_cons pe_str pa_nil))))))))))) (blkOk_by (N := NBh) (sc := defScope s_bh) (by decide +kernel)) (fun _ _ _ _ _ => (pg_name (i := 2) sc_bh.nd rfl (Or.inl rfl))) (fun _ _ _ _ _ => pts_nil) (fun _ _ _ _ _ => (pe_tupF (pa_cons (pv 2) (pa_cons (pe_tupF pa_nil) (pa_cons (pv 0) pa_nil)))))) pa_nil)) pa_nil))))
    (pss_cons (ps_set (i := 1) sc_bh.nd rfl (Or.inl rfl) (pe_op op_cat (pv 1) (pe_lst (pa_cons (pe_tupF (pa_cons (pe_tupF (pa_cons pe_str (pa_cons (pe_tupF pa_nil) (pa_cons (pe_op op_repF (pv 0) pe_int) pa_nil)))) pa_nil)) (pa_cons (pe_tupF (pa_cons (pe_tupF (pa_cons pe_str (pa_cons (pe_tupF pa_nil) (pa_cons (pe_tupF (pa_cons (pe_tupF (pa_cons pe_str (pa_cons pe_int pa_nil))) pa_nil)) pa_nil)))) pa_nil)) (pa_cons (pe_tupF (pa_cons (pe_tupF (pa_cons pe_str (pa_cons (pe_tupF pa_nil) (pa_cons (pe_tupF (pa_cons (pe_tupF (pa_cons pe_str (pa_cons pe_int pa_nil))) (pa_cons (pe_tupF (pa_cons pe_str pa_nil)) pa_nil))) pa_nil)))) pa_nil)) pa_nil))))))
    (pss_cons (ps_set (i := 1) sc_bh.nd rfl (Or.inl rfl) (pe_op op_cat (pv 1) (pe_lst (pa_cons (pe_tupF (pa_cons (pe_tupF (pa_cons pe_str (pa_cons (pe_tupF pa_nil) (pa_cons (pe_tupF (pa_cons (pe_tupF (pa_cons pe_str (pa_cons pe_str pa_nil))) pa_nil)) pa_nil)))) pa_nil)) (pa_cons (pe_tupF (pa_cons (pe_tupF (pa_cons pe_str (pa_cons (pe_tupF pa_nil) (pa_cons (pe_tupF (pa_cons (pe_tupF (pa_cons pe_str (pa_cons (pe_op op_add (pe_op op_pow pe_int pe_int) pe_int) pa_nil))) pa_nil)) pa_nil)))) pa_nil)) (pa_cons (pe_tupF (pa_cons (pe_tupF (pa_cons pe_str (pa_cons (pe_tupF pa_nil) (pa_cons (pe_tupF (pa_cons (pe_tupF (pa_cons pe_str (pa_cons pe_int pa_nil))) pa_nil)) pa_nil)))) pa_nil)) pa_nil))))))
    (pss_one (ps_ret (pe_op op_cat (pv 1) (pe_lst (pa_cons (pe_tupF (pa_cons (pe_tupF (pa_cons pe_str (pa_cons (pe_tupF pa_nil) (pa_cons (pv 0) pa_nil)))) (pa_cons (pe_tupF (pa_cons pe_str (pa_cons (pe_tupF pa_nil) (pa_cons (pe_tupF (pa_cons (pe_tupF (pa_cons pe_str (pa_cons (pe_un un_neg (pe_op op_powW pe_int pe_int)) pa_nil))) pa_nil)) pa_nil)))) pa_nil))) pa_nil))))))))), ?_⟩
  have hsl : sizeLine = 16777216 := sizeLine_eq
  have kn0 : ∀ {H' : Hp}, Kn [] H' := fun z hz => nomatch hz
  have p0 : ∀ {b' σ' H'}, Kn b' H' → ED K b' (tTupF tNil) σ' H' (.tuple (([] : List Str).map .str)) := fun {b' σ' H'} kn => ed_tup kn ea_nil (by decide)
  refine g_set (K := K) (b := []) (d := .tuple [addR.d]) (ed_tup kn0 (ea_cons (ed_tup kn0 (ea_cons (ed_str (x := "add")) ea_nil) (sz1 (by decide))) ea_nil) (sz1 (by decide))) fun va H1 x1 hva => ?_
  have ad : ∀ {σ' H'}, Ex H1 H' → σ'[0]? = some (some va) → ED K [] (tVar 0) σ' H' (.tuple ([addR].map Rw.d)) := fun {σ' H'} x e => ed_var e (Dq.up hva x)
  have pt : ∀ {σ' H' tn tr} {x : Str} {ns : List Str} {rs : List Rw}, ED K [] tn σ' H' (.tuple (ns.map .str)) → ED K [] tr σ' H' (.tuple (rs.map Rw.d)) → ED K [] (tTupF (tCons (tC (.str x)) (tCons tn (tCons tr tNil)))) σ' H' (Pt.d ⟨x, ns, rs⟩) := fun {σ' H' tn tr x ns rs} h1 h2 => ed_tup kn0 (ea_cons ed_str (ea_cons h1 (ea_cons h2 ea_nil))) (sz3 (by decide))
  have p1 : ∀ {σ' H' tp} {p : Pt}, ED K [] tp σ' H' p.d → ED K [] (tTupF (tCons tp tNil)) σ' H' (prD [p]) := fun {σ' H' tp p} h => ed_tup kn0 (ea_cons h ea_nil) (sz1 (by decide))
  have p2 : ∀ {σ' H' tp tq} {p p' : Pt}, ED K [] tp σ' H' p.d → ED K [] tq σ' H' p'.d → ED K [] (tTupF (tCons tp (tCons tq tNil))) σ' H' (prD [p, p']) := fun {σ' H' tp tq p p'} h h' => ed_tup kn0 (ea_cons h (ea_cons h' ea_nil)) (sz2 (by decide))
  have r1 : ∀ {σ' H' tr} {r : Rw}, ED K [] tr σ' H' r.d → ED K [] (tTupF (tCons tr tNil)) σ' H' (.tuple ([r].map Rw.d)) := fun {σ' H' tr r} h => ed_tup kn0 (ea_cons h ea_nil) (sz1 (by decide))
  have rn : ∀ {σ' H' tr} {x : Str} {i : Int}, ED K [] tr σ' H' (.int i) → ED K [] (tTupF (tCons (tC (.str x)) (tCons tr tNil))) σ' H' (Rw.num x i).d := fun {σ' H' tr x i} h => ed_tup kn0 (ea_cons ed_str (ea_cons h ea_nil)) (sz2 (by decide))
  refine g_lst (K := K) (b := []) (ds := by1.map prD) kn0 (ea_cons (p1 (pt (ns := ["b", "c", "b"]) (ed_tup kn0 (ea_cons ed_str (ea_cons ed_str (ea_cons ed_str ea_nil))) (sz3 (by decide))) (ad (Ex.refl H1) rfl))) (ea_cons (p1 (pt (ns := ["b", "c", "d", "e"]) (ed_tup kn0 (ea_cons ed_str (ea_cons ed_str (ea_cons ed_str (ea_cons ed_str ea_nil)))) (by show 4 ≤ sizeLine; omega)) (ad (Ex.refl H1) rfl))) (ea_cons (p2 (pt (p0 kn0) (ad (Ex.refl H1) rfl)) (pt (p0 kn0) (ad (Ex.refl H1) rfl))) ea_nil))) (by show 3 ≤ sizeLine; omega) fun s1 vs1 H2 hs1 x2 e1 d1 => ?_
  show tSeq _ _ _ [some va, some (.ref s1), none] H2
  have lc := ed_lcLT (K := K) (b := []) (k := 2) (σ := [some va, some (.ref s1), none]) (H := H2) (ds := nine.map .str) (te := tTupF (tCons (tVar 2) (tCons (tTupF tNil) (tCons (tVar 0) tNil)))) (f := fun d => .tuple [d, .tuple [], .tuple [addR.d]]) kn0 (ed_lst kn0 (ea_cons (ed_str (x := "a")) (ea_cons (ed_str (x := "b")) (ea_cons (ed_str (x := "c")) (ea_cons (ed_str (x := "d")) (ea_cons (ed_str (x := "e")) (ea_cons (ed_str (x := "f")) (ea_cons (ed_str (x := "g")) (ea_cons (ed_str (x := "h")) (ea_cons (ed_str (x := "i")) ea_nil))))))))) (by show 9 ≤ sizeLine; omega)) (by decide) (fun d hd => by
    obtain ⟨x, _, rfl⟩ := List.mem_map.mp hd
    rfl) fun Dl d H0 H5 hd y0 hD' y1 k5 => by
      obtain ⟨x, _, rfl⟩ := List.mem_map.mp hd
      exact ed_tup k5 (ea_cons (ed_var (i := 2) rfl (.str x)) (ea_cons (p0 k5) (ea_cons (ed_var (i := 0) rfl (dp_ex (hid_ex y1) _ _ (Dq.hide (Dq.up (Dq.up hva x2) y0) hD'))) ea_nil))) (sz3 (by decide))
  have l2 : ED K [] _ _ H2 (prD (nine.map fun x => ⟨x, [], [addR]⟩)) := ed_tupOf kn0 lc
  refine g_cat (K := K) (b := []) (ds := by1.map prD) (es := by2.map prD) kn0 rfl e1 d1 (ea_cons l2 ea_nil) (by show 3 + 1 ≤ sizeLine; omega) fun s2 vs2 H3 hs2 x3 e2 d2 => ?_
  show tSeq _ _ _ [some va, some (.ref s2), none] H3
  have x13 := x2.trans x3
  have rp : ED K [] (tOp (rRepF K) (tVar 0) (tC (.int 61))) [some va, some (.ref s2), none] H3 (.tuple ((List.replicate 61 addR).map Rw.d)) := ed_repF (n := 61) kn0 (ad x13 rfl) (ed_int (i := 61)) (by intro z; cases z) (by decide) (by decide) (by decide)
  refine g_cat (K := K) (b := []) (ds := by1.map prD ++ by2.map prD) (es := by3.map prD) kn0 rfl e2 d2 (ea_cons (p1 (pt (p0 kn0) rp)) (ea_cons (p1 (pt (p0 kn0) (r1 (rn ed_int)))) (ea_cons (p1 (pt (rs := [.num "try" 1, addR]) (p0 kn0) (ed_tup kn0 (ea_cons (rn ed_int) (ea_cons (ed_tup kn0 (ea_cons (ed_str (x := "add")) ea_nil) (sz1 (by decide))) ea_nil)) (sz2 (by decide))))) ea_nil))) (by show 4 + 3 ≤ sizeLine; omega) fun s3 vs3 H4 hs3 x4 e3 d3 => ?_
  show tSeq _ _ _ [some va, some (.ref s3), none] H4
  have p12 : ∀ {σ' H'}, ED K [] (tOp (rI CPow fun i j => .int (i ^ j.toNat)) (tC (.int 10)) (tC (.int 12))) σ' H' (.int 1000000000000) := fun {_ _} => ed_I ed_int ed_int ⟨by decide, by decide, by decide⟩ fun _ => .int _
  refine g_cat (K := K) (b := []) (ds := (by1.map prD ++ by2.map prD) ++ by3.map prD) (es := by4.map prD) kn0 rfl e3 d3 (ea_cons (p1 (pt (p0 kn0) (r1 (r := .nm "call" "b") (ed_tup kn0 (ea_cons ed_str (ea_cons ed_str ea_nil)) (sz2 (by decide)))))) (ea_cons (p1 (pt (p0 kn0) (r1 (rn ((ed_add p12 ed_int).to (e := .int 1000000000001) rfl))))) (ea_cons (p1 (pt (p0 kn0) (r1 (rn ed_int)))) ea_nil))) (by show 7 + 3 ≤ sizeLine; omega) fun s4 vs4 H5 hs4 x5 e4 d4 => ?_
  show tRet _ _ [some va, some (.ref s4), none] H5
  have x15 := x13.trans (x4.trans x5)
  refine g_retC (K := K) (b := []) (ds := ((by1.map prD ++ by2.map prD) ++ by3.map prD) ++ by4.map prD) (es := by5.map prD) rfl e4 d4 (ea_cons (p2 (pt (p0 kn0) (ad x15 rfl)) (pt (p0 kn0) (r1 (rn ?_)))) ea_nil) (by show 10 + 1 ≤ sizeLine; omega) fun s5 vs5 H6 x6 e5 d5 => ?_
  · exact ed_neg (ed_I (ed_int (i := 10)) (ed_int (i := 39)) ⟨by decide, by decide, by decide⟩ fun _ => .int _)
  · refine q s5 vs5 H6 (x1.trans (x15.trans x6)) e5 ?_
    have e : byL.map prD = (((by1.map prD ++ by2.map prD) ++ by3.map prD) ++ by4.map prD) ++ by5.map prD := by
      unfold byL
      rw [List.map_append, List.map_append, List.map_append, List.map_append]
    rw [e]
    exact d5
end
end Wr

set_option Elab.async false
set_option linter.all false
set_option maxRecDepth 100000
set_option maxHeartbeats 4000000
namespace Wr
open PySem PySem.Spec PyProof.Rows L2 Evl TL
theorem tail_for {wi : TI} {g : TG} {tb : TS} {D : Ends} {σ : L2.St} {H : Hp} (h : tSeq (tFor wi g tb) tNext D σ H) : tFor wi g tb D σ H := h
/-! ### how great a program is -/
theorem str_okM {L k n : Nat} {x : Str} (h : ∀ c ∈ tl x, c < 128) (hl : x.length ≤ 50) : okM L k n (.str x) = true := okM_str.mpr ⟨h, by rw [← len_tl]; omega⟩
theorem nm_okM {L k n : Nat} {x : Str} (h : nameS x = true) : okM L k n (.str x) = true := str_okM (fun c hc => by have := nameS_tl h c hc; omega) (by have := name_len h; omega)
def allW : List Str := ([ "call", "put"] : List Str) ++ (loneW ++ (nameW ++ rowW))
theorem words_tab : (allW.all fun w => (tl w).all (fun c => decide (c < 128)) && decide (w.length ≤ 50)) = true := by decide +kernel
theorem wd_okM {L k n : Nat} {w : Str} (h : w ∈ allW) : okM L k n (.str w) = true := by
  have q := List.all_eq_true.mp words_tab w h
  rw [Bool.and_eq_true] at q
  exact str_okM (fun c hc => of_decide_eq_true (List.all_eq_true.mp q.1 c hc)) (of_decide_eq_true q.2)
theorem rw_okM {r : Rw} (h : RwOk r) : okM 61 0 1 r.d = true := by
  cases r with
  | lone w =>
    have h : w ∈ loneW := h
    refine okM_tup.mpr ⟨by show 1 ≤ 61; decide, fun d hd => ?_⟩
    rw [List.mem_singleton.mp hd]
    exact wd_okM (by simp [allW, h])
  | nm w x =>
    obtain ⟨h1, h2⟩ : (w = "call" ∨ w ∈ nameW) ∧ nameS x = true := h
    refine okM_tup.mpr ⟨by show 2 ≤ 61; decide, fun d hd => ?_⟩
    rcases List.mem_cons.mp hd with e | hd
    · rw [e]
      exact wd_okM (by rcases h1 with e | e; rw [e]; simp [allW]; simp [allW, e])
    · rw [List.mem_singleton.mp hd]
      exact nm_okM h2
  | num w i =>
    have h : (w = "put" ∧ i.natAbs ≤ 1000000000000000000000000000000000000000) ∨ (w ∈ rowW ∧ 0 ≤ i ∧ i ≤ 60) := h
    refine okM_tup.mpr ⟨by show 2 ≤ 61; decide, fun d hd => ?_⟩
    rcases List.mem_cons.mp hd with e | hd
    · rw [e]
      exact wd_okM (by rcases h with ⟨e, _⟩ | ⟨e, _⟩; rw [e]; simp [allW]; simp [allW, e])
    · rw [List.mem_singleton.mp hd]
      refine okM_int.mpr ?_
      rcases h with ⟨_, h⟩ | ⟨_, h1, h2⟩
      · exact Nat.lt_of_le_of_lt h (by decide)
      · exact Nat.lt_of_le_of_lt (show i.natAbs ≤ 60 by omega) (by decide)
theorem pt_okM {p : Pt} (h : PtOk p) : okM 61 0 3 p.d = true := by
  refine okM_tup.mpr ⟨by show 3 ≤ 61; decide, fun d hd => ?_⟩
  simp only [List.mem_cons, List.not_mem_nil, or_false] at hd
  rcases hd with rfl | rfl | rfl
  · exact nm_okM h.nm
  · refine okM_tup.mpr ⟨by rw [List.length_map]; have := h.l3; omega, fun d hd => ?_⟩
    obtain ⟨y, hy, rfl⟩ := List.mem_map.mp hd
    exact nm_okM (h.nms y hy)
  · refine okM_tup.mpr ⟨by rw [List.length_map]; exact h.r60, fun d hd => ?_⟩
    obtain ⟨r, hr, rfl⟩ := List.mem_map.mp hd
    exact rw_okM (h.rs r hr)
theorem good_okM {ps : List Pt} (G : WelP ps) : okM 61 0 4 (prD ps) = true := by
  refine okM_tup.mpr ⟨by rw [List.length_map]; have := G.l9; omega, fun d hd => ?_⟩
  obtain ⟨p, hp, rfl⟩ := List.mem_map.mp hd
  exact pt_okM (G.ok p hp)
abbrev s_law : Stmt := topS 71
abbrev NLw : List Str := ["_law_script", "_law_at", "_law_bag_here", "_law_program_here", "_law_turn", "_law_spoilt", "_law_thing"]
theorem sc_law : FnScope NLw ["_law_script"] (defScope s_law) := ⟨rfl, rfl, rfl, by decide +kernel, rfl, by decide +kernel, by decide +kernel⟩
section
variable {P : Program} {w : World} {K : PySem.W.Frag} {mg : Str → Option Value} {base : Heap} {C fS f g1 g2 g3 g4 g5 g6 g7 g8 : Addr} {fd fdS gd1 gd2 gd3 gd4 gd5 gd6 gd7 gd8 : FuncData}
theorem ok_law (D : Def K mg "law" s_law ["_law_script"] f fd) (B : Blt mg) (B2 : Blt2 mg) (Db : Def K mg "_law_bag" s_bag ["_law_script", "_law_at"] g1 gd1) (Gb : FnOk P w K mg base CX0 1 g1 gd1 ["_law_script", "_law_at"] (spBag K)) (Dp : Def K mg "_law_program" s_pr ["_law_bag_here"] g2 gd2) (Gp : FnOk P w K mg base CX0 4 g2 gd2 ["_law_bag_here"] (spPr K))
    (Dk : Def K mg "_law_take" s_take ["_law_bag_here", "_law_many"] g3 gd3) (Dr : Def K mg "_law_right" s_rt ["_law_thing"] g4 gd4) (Gr : FnG P w K mg base 9 g4 gd4 ["_law_thing"] (spRt K))
    (Do : Def K mg "_law_otherwise" s_ot POt g5 gd5) (G4 : FnOk P w K mg base CX0 8 g5 gd5 POt (spOt K 4)) (G8 : FnOk P w K mg base CX0 12 g5 gd5 POt (spOt K 8))
    (Drd : Def K mg "read_program" s_read ["text"] fS fdS) (Dt : Def K mg "_law_told" s_td PTd g6 gd6) (Gt : FnOk P w K mg base CX0 8 g6 gd6 PTd (spTd K C fS (spRdR K C)))
    (Dw : Def K mg "_law_written" s_wr ["_law_program_here"] g7 gd7) (Gw : FnOk P w K mg base CX0 3 g7 gd7 ["_law_program_here"] (spWr K)) (Dh : Def K mg "_law_by_hand" s_bh [] g8 gd8) (Gh : FnOk P w K mg base CX0 1 g8 gd8 [] (spBh K)) :
    FnG P w K mg base 13 f fd ["_law_script"] (spLaw K) := by
  refine D.okG sc_law (fun vs H Q E ⟨a, ns, e, _⟩ => by rw [e]; rfl) (fun cdv A outer s H vs Q E hg hr h => ?_)
  obtain ⟨a, ns, rfl, hS, hn, q⟩ := h
  refine ⟨_, pss_cons (ps_for PassesOwn.never rfl (pi_range1 rfl B.range (pa_cons (pe_callB (cr_max2 rfl) rfl B2.max bb_max (pa_cons pe_int (pa_cons (pe_callB (cr_min2 rfl) rfl B2.min bb_min (pa_cons pe_int (pa_cons (pe_callB call_lenD1 rfl B.len bb_len (pa_cons (pv 0) pa_nil)) pa_nil))) pa_nil))) pa_nil)) (pg_name (i := 1) sc_law.nd rfl (Or.inl rfl)) (pss_cons (ps_set (i := 2) sc_law.nd rfl (Or.inl rfl) (pe_cd Db Gb (hr.mono (by decide)) (pa_cons (pv 0) (pa_cons (pv 1) pa_nil))))
    (pss_cons (ps_set (i := 3) sc_law.nd rfl (Or.inl rfl) (pe_cd Dp Gp (hr.mono (by decide)) (pa_cons (pv 2) pa_nil)))
    (pss_cons (ps_if (pt_not (pt_val (pe_cdG Dr Gr hg (hr.mono (by decide)) (pa_cons (pv 3) pa_nil)))) (pss_one (ps_ret pe_bl)) pss_nil)
    (pss_one (ps_for PassesOwn.never rfl (pi_range1 rfl B.range (pa_cons pe_int pa_nil)) (pg_name (i := 4) sc_law.nd rfl (Or.inl rfl)) (pss_cons (ps_set (i := 5) sc_law.nd rfl (Or.inl rfl) (pe_cd Do G4 (hr.mono (by decide)) (pa_cons (pv 2) (pa_cons (pv 3) pa_nil))))
    (pss_cons (ps_if (pt_cmpR op_eq (pe_cd Dk (ok_take Dk) (hr.mono (by decide)) (pa_cons (pv 2) (pa_cons pe_int pa_nil))) pe_int (nomark _)) (pss_one (ps_set (i := 5) sc_law.nd rfl (Or.inl rfl) (pe_cd Do G8 hr (pa_cons (pv 2) (pa_cons (pv 5) pa_nil))))) pss_nil)
    (pss_one (ps_if (pt_not (pt_val (pe_cdG Dr Gr hg (hr.mono (by decide)) (pa_cons (pv 5) pa_nil)))) (pss_one (ps_ret pe_bl)) pss_nil))))))))))
    (pss_cons (ps_for PassesOwn.never rfl (pi_list (pe_call0 Gh (hr.mono (by decide)) rfl Dh.m Dh.F.kp Dh.b .nil pass0)) (pg_name (i := 6) sc_law.nd rfl (Or.inl rfl)) (pss_one (ps_if (PW.pt (pw_or (pt_not (pt_val (pe_cdG Dr Gr hg (hr.mono (by decide)) (pa_cons (pv 6) pa_nil)))) (pw_or1 (pt_cmp (pc_notN (pe_cd Dt Gt (hr.mono (by decide)) (pa_cons (pe_gR Drd.m) (pa_cons (pe_cd Dw Gw (hr.mono (by decide)) (pa_cons (pv 6) pa_nil)) pa_nil)))))))) (pss_one (ps_ret pe_bl)) pss_nil)))
    (pss_one (ps_ret (pe_and (pe_cdG Dr Gr hg (hr.mono (by decide)) (pa_cons (pe_tupF (pa_cons (pe_tupF (pa_cons pe_str (pa_cons (pe_tupF pa_nil) (pa_cons (pe_op op_repF (pe_tupF (pa_cons (pe_tupF (pa_cons pe_str pa_nil)) pa_nil)) pe_int) pa_nil)))) pa_nil)) pa_nil)) (pe_one (pe_cdG Dr Gr hg (hr.mono (by decide)) (pa_cons (pe_tupF (pa_cons (pe_tupF (pa_cons pe_str (pa_cons (pe_tupF pa_nil) (pa_cons (pe_tupF (pa_cons (pe_tupF (pa_cons pe_str (pa_cons pe_int pa_nil))) pa_nil)) pa_nil)))) pa_nil)) pa_nil))))))), ?_⟩
  have hsl : sizeLine = 16777216 := sizeLine_eq
  have hD : ∀ {H'}, Ex H H' → Dq K [] H' (.ref a) (.list (ns.map .int)) := fun {H'} x => by
    show Dd K (hid [] H') _ _
    rw [hid_nil]
    exact .lst (ex_l x hS) (ints_dps ns)
  have kn0 : ∀ {H' : Hp}, Kn [] H' := fun z hz => nomatch hz
  have cnt := ed_max2 (K := K) (b := []) (ed_int (i := 2)) (ed_min2 (ed_int (i := 6)) (ed_len (ed_var (σ := start NLw [.ref a]) (i := 0) rfl (hD (Ex.refl H))) (.inr (.inl rfl)) fun y e => by cases e))
  have c0 : ∀ ll : Int, 2 ≤ (if (if ll < 6 then ll else 6) > 2 then (if ll < 6 then ll else 6) else 2) ∧ (if (if ll < 6 then ll else 6) > 2 then (if ll < 6 then ll else 6) else 2) ≤ 6 := fun ll => by
    split <;> split <;> omega
  obtain ⟨cl, ch⟩ := c0 ((lenD (.list (ns.map PyData.int)) : Nat) : Int)
  generalize (if (if ((lenD (.list (ns.map PyData.int)) : Nat) : Int) < 6 then ((lenD (.list (ns.map PyData.int)) : Nat) : Int) else 6) > 2 then (if ((lenD (.list (ns.map PyData.int)) : Nat) : Int) < 6 then ((lenD (.list (ns.map PyData.int)) : Nat) : Int) else 6) else 2) = N at cnt cl ch
  -- right(..) of any thing that isn't too great
  have rge : ∀ {b' : List Addr} {te : TE} {σ' : L2.St} {H' : Hp} {d : PyData}, Kn b' H' → ED K b' te σ' H' d → okD 30 d = true → szD d ≤ 16000000 → ED K b' (tCall (spRt K) [] E0 (tCons te tNil)) σ' H' (.bool true) := fun {b' te σ' H' d} kn' he ho hz H1 x1 Q' q' => he H1 x1 _ fun v H2 x2 hv => ⟨b', v, d, rfl, kn'.up (x1.trans x2), hv, ho, hz, fun H3 x3 => q' _ H3 (x2.trans x3) (.bl _)⟩
  refine g_forR (K := K) (b := []) (fun i σ' H' => ∃ u1 u2 u3 u4 u5 : Option V, σ' = [some (.ref a), u1, u2, u3, u4, u5, none] ∧ Ex H H') cnt (by omega) (by omega) (fun H1 x1 => ⟨none, none, none, none, none, rfl, x1⟩) ?_ ?_
  · intro i σ' H1 hi ⟨u1, u2, u3, u4, u5, es, x1⟩
    subst es
    show tSeq _ _ _ [some (.ref a), some (.int (0 + (i : Int))), u2, u3, u4, u5, none] H1
    rw [Int.zero_add]
    refine ⟨.ref a, rfl, .int (i : Nat), rfl, [], ns, (i : Nat), kn0, ?_, by omega, by omega, hn, fun p H2 hp x2 bg => ?_⟩
    · exact .cons (hD x1) (.cons (.int _) .nil)
    have bg : Bag p 0 H2 := bg
    have pm : p ∈ [p] := List.mem_singleton.mpr rfl
    refine ⟨.ref p, rfl, [p], p, 0, [], [], rfl, pm, bg.kn, bg, .nil, rfl, fun v d H3 x3 bg3 hv ⟨ps, ed, G⟩ => ?_⟩
    subst ed
    have sz := good_sz G
    have okm := good_okM G.wel
    show tSeq _ _ _ [some (.ref a), some (.int (i : Nat)), some (.ref p), some v, u4, u5, none] H3
    refine g_ifF (et_n (et_b (rge (b' := [p]) bg3.kn (ed_var (i := 3) rfl hv) G.okd (by omega)))) fun H4 x4 => ?_
    have x14 : Ex H1 H4 := ex_exb hp x2 (x3.trans (exb x4))
    have bg4 := bg3.ex x4
    have hv4 := Dq.up hv x4
    refine tail_for (g_forR (K := K) (b := [p]) (N := 6) (ts := tNext) (σ := [some (.ref a), some (.int (i : Nat)), some (.ref p), some v, u4, u5, none]) (H := H4) (fun j σ' H' => ∃ u4 u5 : Option V, σ' = [some (.ref a), some (.int (i : Nat)), some (.ref p), some v, u4, u5, none] ∧ ExB p H4 H' ∧ Bag p 0 H') (ed_int (i := 6)) (by decide) (by decide) (fun H5 x5 => ⟨u4, u5, rfl, exb x5, bg4.ex x5⟩) ?_ ?_)
    · intro j σ' H5 hj ⟨u4, u5, es, x5, bg5⟩
      subst es
      show tSeq _ _ _ [some (.ref a), some (.int (i : Nat)), some (.ref p), some v, some (.int (0 + (j : Int))), u5, none] H5
      have hv5 := Dq.upB pm hv4 x5
      refine ⟨.ref p, rfl, v, rfl, [p], p, 0, [v], [prD ps], rfl, pm, bg5.kn, bg5, .cons hv5 .nil, ⟨_, 61, 0, rfl, okm, by decide, by decide⟩, fun w1 d1 H6 x6 bg6 hw1 R1 => ?_⟩
      obtain ⟨ok1, sz1'⟩ := R1 (prD ps) 61 0 4 rfl okm
      have ok1 : okM 125 1 8 d1 = true := ok1
      show tSeq _ _ _ [some (.ref a), some (.int (i : Nat)), some (.ref p), some v, some (.int (0 + (j : Int))), some w1, none] H6
      have fin : ∀ w2 d2 H7, ExB p H5 H7 → Bag p 0 H7 → Dq K [p] H7 w2 d2 → okD 30 d2 = true → szD d2 ≤ 16000000 → tIfS (tNot (tB (tCall (spRt K) [] E0 (tCons (tVar 5) tNil)))) (tRet (tC (.bl false))) tNext { nx := fun σ' H' => ∃ u4 u5 : Option V, σ' = [some (.ref a), some (.int (i : Nat)), some (.ref p), some v, u4, u5, none] ∧ ExB p H4 H' ∧ Bag p 0 H', rt := Q } [some (.ref a), some (.int (i : Nat)), some (.ref p), some v, some (.int (0 + (j : Int))), some w2, none] H7 := fun w2 d2 H7 x7 bg7 hw2 ho hz => by
        refine (et_n (et_b (rge (b' := [p]) bg7.kn (ed_var (i := 5) rfl hw2) ho hz))) H7 (Ex.refl H7) _ fun H8 x8 => ?_
        show (if (!true) = true then _ else _)
        rw [show (!true) = false from rfl, if_neg Bool.false_ne_true]
        exact ⟨_, _, rfl, x5.trans (x7.trans (exb x8)), bg7.ex x8⟩
      have up : ∀ {L k n d'}, L ≤ 1000 → k ≤ 100 → n ≤ 30 → okM L k n d' = true → okD 30 d' = true := fun {L k n d'} hL hk hn' h => okM_ok hL hk 30 _ (okM_up (Nat.le_refl _) (Nat.le_refl _) n 30 _ hn' h)
      refine (eg_eqJ (K := K) (b := [p]) (a := p) (n := 0) (m := 0) (u := 0) (H := H6) (eg_take (E := E0) (i := 2) (u := 3) pm rfl (by decide) (by decide)) fun d ⟨r, e, _⟩ => ⟨r, e⟩) H6 (ExB.refl p H6) bg6.kn bg6 _ fun vb db H7 x7 bg7 hvb ⟨c, ec⟩ => ?_
      subst ec
      refine ⟨c, dq_bl hvb, ?_⟩
      cases c with
      | false =>
        rw [if_neg Bool.false_ne_true]
        exact fin w1 d1 H7 (x6.trans x7) bg7 (Dq.upB pm hw1 x7) (up (by decide) (by decide) (by decide) ok1) (by omega)
      | true =>
        rw [if_pos rfl]
        refine ⟨.ref p, rfl, w1, rfl, [p], p, 0, [w1], [d1], rfl, pm, bg7.kn, bg7, .cons (Dq.upB pm hw1 x7) .nil, ⟨_, 125, 1, rfl, ok1, by decide, by decide⟩, fun w2 d2 H8 x8 bg8 hw2 R2 => ?_⟩
        obtain ⟨ok2, sz2'⟩ := R2 d1 125 1 8 rfl ok1
        have ok2 : okM 253 2 12 d2 = true := ok2
        exact fin w2 d2 H8 ((x6.trans x7).trans x8) bg8 hw2 (up (by decide) (by decide) (by decide) ok2) (by omega)
    · intro σ' H5 ⟨u4, u5, es, x5, bg5⟩
      subst es
      exact ⟨_, _, _, _, _, rfl, x1.trans (ex_exb hp x14 x5)⟩
  · intro σ' H1 ⟨u1, u2, u3, u4, u5, es, x1⟩
    subst es
    refine ⟨rfl, fun p us H2 x2 e2 d2 => ⟨p, rfl, ⟨us, .inl (.inl e2)⟩, ?_⟩⟩
    refine for_it (walk_list (K := K) (xs := us)) (fun i σ' H' => ∃ u6 : Option V, σ' = [some (.ref a), u1, u2, u3, u4, u5, u6] ∧ Ex H2 H') ⟨none, rfl, Ex.refl H2⟩ (fun i σ' H' _ ⟨_, _, x⟩ => .inl (.inl (x _ _ e2))) ?_ ?_
    · intro i xv σ' H3 H3' hi ⟨u6, es, x3⟩ ⟨eH, hx⟩
      subst es eH
      obtain ⟨d, hd, hdq⟩ := dps_at d2 hx
      obtain ⟨ps, hps, rfl⟩ := List.mem_map.mp (List.mem_of_getElem? hd)
      obtain ⟨W, ho, hp, hz⟩ := by_ok hps
      have hdq : Dq K [] H2 xv (prD ps) := hdq
      have h3 := Dq.up hdq x3
      show tIfS _ _ _ _ [some (.ref a), u1, u2, u3, u4, u5, some xv] H3'
      have tn : EvT (tTest (tNotN (tCall (spTd K C fS (spRdR K C)) [] E0 (tCons (tC (.ref fS)) (tCons (tCall (spWr K) [] E0 (tCons (tVar 6) tNil)) tNil))))) [some (.ref a), u1, u2, u3, u4, u5, some xv] H3' false := et_t (K := K) (b := []) fun H4 x4 Q' q' => (ed_wr (K := K) (b := []) (E := E0) kn0 (ea_cons (ed_var (i := 6) rfl h3) ea_nil) W) H4 x4 _ fun vt H5 x5 hvt => ⟨vt, rfl, [], vt, _, _, rfl, kn0, hvt, rd_no W ho hp, fun H6 x6 => ⟨rfl, rfl, fun H7 x7 => q' _ H7 (x5.trans (x6.trans x7)) (.bl _)⟩⟩
      refine (et_or (et_n (et_b (rge (b' := []) kn0 (ed_var (i := 6) rfl h3) ho hz))) fun _ => tn) H3' (Ex.refl H3') _ fun H4 x4 => ?_
      show (if false = true then _ else _)
      rw [if_neg Bool.false_ne_true]
      exact ⟨_, rfl, x3.trans x4⟩
    · intro σ' H3 ⟨u6, es, x3⟩
      subst es
      have t1 : ED K [] (tTupF (tCons (tTupF (tCons (tC (.str "a")) (tCons (tTupF tNil) (tCons (tOp (rRepF K) (tTupF (tCons (tTupF (tCons (tC (.str "add")) tNil)) tNil)) (tC (.int 60))) tNil)))) tNil)) [some (.ref a), u1, u2, u3, u4, u5, u6] H3 (prD [⟨"a", [], List.replicate 60 addR⟩]) := ed_tup kn0 (ea_cons (ed_tup kn0 (ea_cons ed_str (ea_cons (ed_tup kn0 ea_nil (by decide)) (ea_cons (ed_repF (n := 60) (ds := [addR.d]) kn0 (ed_tup kn0 (ea_cons (ed_tup kn0 (ea_cons (ed_str (x := "add")) ea_nil) (sz1 (by decide))) ea_nil) (sz1 (by decide))) (ed_int (i := 60)) (by intro z; cases z) (by decide) (by decide) (by decide)) ea_nil))) (sz3 (by decide))) ea_nil) (sz1 (by decide))
      have t2 : ED K [] (tTupF (tCons (tTupF (tCons (tC (.str "a")) (tCons (tTupF tNil) (tCons (tTupF (tCons (tTupF (tCons (tC (.str "try")) (tCons (tC (.int 0)) tNil))) tNil)) tNil)))) tNil)) [some (.ref a), u1, u2, u3, u4, u5, u6] H3 (prD [⟨"a", [], [.num "try" 0]⟩]) := ed_tup kn0 (ea_cons (ed_tup kn0 (ea_cons ed_str (ea_cons (ed_tup kn0 ea_nil (by decide)) (ea_cons (ed_tup kn0 (ea_cons (ed_tup kn0 (ea_cons (ed_str (x := "try")) (ea_cons (ed_int (i := 0)) ea_nil)) (sz2 (by decide))) ea_nil) (sz1 (by decide))) ea_nil))) (sz3 (by decide))) ea_nil) (sz1 (by decide))
      refine (ed_andB (rge kn0 t1 (by decide +kernel) (by decide +kernel)) fun _ => rge kn0 t2 (by decide +kernel) (by decide +kernel)) H3 (Ex.refl H3) _ fun vz H4 x4 hvz => ?_
      rw [dq_bl hvz]
      exact q H4
end
end Wr

set_option Elab.async false
set_option linter.all false
set_option maxRecDepth 100000
set_option maxHeartbeats 4000000
namespace Wr
open PySem PySem.Spec PyProof.Rows L2 Evl
theorem def_mk {K : PySem.W.Frag} {h : Heap} {mg : Str → Option Value} {x : Str} {st : Stmt} {ps : List Str} {f : Addr} {oc : Value} {od an : Option Addr} {osl : Array (Option Value)} {kV doc pm cdv ct : Value} (X : K.In h) (G : h.Ns mainGlobals mg)
    (a : PySem.W.nsIn K mainGlobals x = some (some (.ref f))) (l : K.lookup f = some ⟨oc, od, .func (PySem.W.fnOf x x (defArgs st) (defBody st) (defScope st) .none kV doc pm an cdv ct), osl⟩) (c : PySem.W.codeIn K cdv x = true) (k : PySem.W.keepIn K (.ref f) = true)
    (hb : ∀ (kV doc pm : Value) (an : Option Addr) (cdv ct : Value) (us : List Value), us.length = ps.length → bindArgs (PySem.W.fnOf x x (defArgs st) (defBody st) (defScope st) .none kV doc pm an cdv ct) ⟨us, []⟩ = pure (ps.zip us)) :
    Def K mg x st ps f (PySem.W.fnOf x x (defArgs st) (defBody st) (defScope st) .none kV doc pm an cdv ct) :=
  ⟨fun_mk (st := st) l c k, (fun_mk (st := st) l c k).binds hb, PySem.W.mg_of X G a⟩
theorem word_tup {K : PySem.W.Frag} {a : Addr} {n : Nat} {its : List Value} {xs : List V} (l : K.lookup a = some ⟨.type "tuple", none, .seq its.toArray n, #[]⟩) (hz : its.length ≤ 1000) (r : Vals xs its) : ∀ H, SqT K H a xs ∧ TN K H a := fun H =>
  ⟨.inr ⟨_, its.toArray, n, l, rfl, rfl, by rw [List.size_toArray]; exact Nat.le_trans hz (by decide), by simpa using r⟩, .inr ⟨_, l, rfl, rfl⟩⟩

theorem exm_self {K : PySem.W.Frag} {S : Addr} (h1 : PySem.W.subIn K (.ref S) (.type "BaseException") = some true) (h2 : PySem.W.isClsIn K S = true) (h3 : PySem.W.typeIn K (.ref S) = some (.type "type")) (h4 : PySem.W.subIn K (.ref S) (.ref S) = some true) :
    PySem.W.exmOne K (.ref S) (.ref S) = some true := by
  have e1 : (PySem.W.subIn K (.ref S) (.type "BaseException") == some true) = true := by rw [h1] <;> rfl
  have e2 : ((PySem.W.clsIn K S).isSome && PySem.W.typeIn K (.ref S) == some (.type "type")) = true := by
    have h2' : (PySem.W.clsIn K S).isSome = true := h2
    rw [h2', h3] <;> rfl
  have e3 : PySem.W.kitCls K (.ref S) (.ref S) = some true := by
    unfold PySem.W.kitCls
    exact (if_pos e2).trans h4
  unfold PySem.W.exmOne
  exact (if_pos e1).trans e3
theorem all_mk {l : PySem.W.OpenLaw} {w : World} {K : PySem.W.Frag} {h : Heap} {mg : Str → Option Value} {fa C cU d0 d1 d2 d3 d4 d5 d6 d7 d8 d9 f1 f2 f3 f4 f5 f6 f7 f8 f9 f10 f11 f12 f13 f14 f15 f16 f17 f18 f19 f20 f21 f22 f23 f24 f25 f26 f27 f28 f29 f30 f31 f32 f33 f34 f35 f36 f37 f38 f39 f40 f41 aN aR aL : Addr} (X : K.In h) (G : h.Ns mainGlobals mg) (hfa : mg "law" = some (.ref fa))
    (aC : PySem.W.nsIn K mainGlobals "NoProgram" = some (some (.ref C))) (xC : PySem.W.excIn K C veTail "ValueError.__new__" = true)
    (kC : PySem.W.keepIn K (.ref C) = true) (eC : PySem.W.subIn K (.ref C) (.type "BaseException") = some true) (tC : PySem.W.typeIn K (.ref C) = some (.type "type")) (iC : PySem.W.isClsIn K C = true) (sC : PySem.W.subIn K (.ref C) (.ref C) = some true)
    (hg : PySem.W.findIn K (.ref C) "__getattribute__" = some (some (.builtin "BaseException.__getattribute__"))) (hk : PySem.W.findIn K (.ref C) "__getattr__" = some none) (hd : PySem.W.hasDictIn K C = true) (ha : PySem.W.findIn K (.ref C) "__class__" = some (some (.builtin "object.__class__")))
    (hn : PySem.W.specialIn K (.builtin "object.__class__") "__get__" = some (some (.builtin "getset_descriptor.__get__"))) (ht : PySem.W.takesIn K (.builtin "object.__class__") = some true) (hm : PySem.W.mroIn K C (.type "object") = some true) (oV : PySem.W.kitOne K (.ref C) (.type "ValueError") = some true)
    (aU : PySem.W.nsIn K mainGlobals "Unsound" = some (some (.ref cU))) (oU : PySem.W.kitOne K (.ref C) (.ref cU) = some false)
    (b0 : PySem.W.nsIn K mainGlobals "NoHook" = some (some (.ref d0))) (o0 : PySem.W.kitOne K (.ref C) (.ref d0) = some false)
    (b1 : PySem.W.nsIn K mainGlobals "NoMark" = some (some (.ref d1))) (o1 : PySem.W.kitOne K (.ref C) (.ref d1) = some false)
    (b2 : PySem.W.nsIn K mainGlobals "NoNumbers" = some (some (.ref d2))) (o2 : PySem.W.kitOne K (.ref C) (.ref d2) = some false)
    (b3 : PySem.W.nsIn K mainGlobals "NoPart" = some (some (.ref d3))) (o3 : PySem.W.kitOne K (.ref C) (.ref d3) = some false)
    (b4 : PySem.W.nsIn K mainGlobals "NoRow" = some (some (.ref d4))) (o4 : PySem.W.kitOne K (.ref C) (.ref d4) = some false)
    (b5 : PySem.W.nsIn K mainGlobals "NoText" = some (some (.ref d5))) (o5 : PySem.W.kitOne K (.ref C) (.ref d5) = some false)
    (b6 : PySem.W.nsIn K mainGlobals "NoWord" = some (some (.ref d6))) (o6 : PySem.W.kitOne K (.ref C) (.ref d6) = some false)
    (b7 : PySem.W.nsIn K mainGlobals "TooLong" = some (some (.ref d7))) (o7 : PySem.W.kitOne K (.ref C) (.ref d7) = some false)
    (b8 : PySem.W.nsIn K mainGlobals "TooMany" = some (some (.ref d8))) (o8 : PySem.W.kitOne K (.ref C) (.ref d8) = some false)
    (b9 : PySem.W.nsIn K mainGlobals "Busy" = some (some (.ref d9))) (o9 : PySem.W.kitOne K (.ref C) (.ref d9) = some false)
    {od1 an1 : Option Addr} {sl1 : Array (Option Value)} {oc1 kV1 dc1 pm1 cd1 ct1 : Value}
    (a1 : PySem.W.nsIn K mainGlobals "is_whole" = some (some (.ref f1))) (l1 : K.lookup f1 = some ⟨oc1, od1, .func (PySem.W.fnOf "is_whole" "is_whole" (defArgs s_is_whole) (defBody s_is_whole) (defScope s_is_whole) .none kV1 dc1 pm1 an1 cd1 ct1), sl1⟩) (c1 : PySem.W.codeIn K cd1 "is_whole" = true) (k1 : PySem.W.keepIn K (.ref f1) = true)
    {od2 an2 : Option Addr} {sl2 : Array (Option Value)} {oc2 kV2 dc2 pm2 cd2 ct2 : Value}
    (a2 : PySem.W.nsIn K mainGlobals "is_worth" = some (some (.ref f2))) (l2 : K.lookup f2 = some ⟨oc2, od2, .func (PySem.W.fnOf "is_worth" "is_worth" (defArgs s_is_worth) (defBody s_is_worth) (defScope s_is_worth) .none kV2 dc2 pm2 an2 cd2 ct2), sl2⟩) (c2 : PySem.W.codeIn K cd2 "is_worth" = true) (k2 : PySem.W.keepIn K (.ref f2) = true)
    {od3 an3 : Option Addr} {sl3 : Array (Option Value)} {oc3 kV3 dc3 pm3 cd3 ct3 : Value}
    (a3 : PySem.W.nsIn K mainGlobals "is_index" = some (some (.ref f3))) (l3 : K.lookup f3 = some ⟨oc3, od3, .func (PySem.W.fnOf "is_index" "is_index" (defArgs s_is_index) (defBody s_is_index) (defScope s_is_index) .none kV3 dc3 pm3 an3 cd3 ct3), sl3⟩) (c3 : PySem.W.codeIn K cd3 "is_index" = true) (k3 : PySem.W.keepIn K (.ref f3) = true)
    {od4 an4 : Option Addr} {sl4 : Array (Option Value)} {oc4 kV4 dc4 pm4 cd4 ct4 : Value}
    (a4 : PySem.W.nsIn K mainGlobals "is_name" = some (some (.ref f4))) (l4 : K.lookup f4 = some ⟨oc4, od4, .func (PySem.W.fnOf "is_name" "is_name" (defArgs s_is_name) (defBody s_is_name) (defScope s_is_name) .none kV4 dc4 pm4 an4 cd4 ct4), sl4⟩) (c4 : PySem.W.codeIn K cd4 "is_name" = true) (k4 : PySem.W.keepIn K (.ref f4) = true)
    {od5 an5 : Option Addr} {sl5 : Array (Option Value)} {oc5 kV5 dc5 pm5 cd5 ct5 : Value}
    (a5 : PySem.W.nsIn K mainGlobals "are_names" = some (some (.ref f5))) (l5 : K.lookup f5 = some ⟨oc5, od5, .func (PySem.W.fnOf "are_names" "are_names" (defArgs s_are_names) (defBody s_are_names) (defScope s_are_names) .none kV5 dc5 pm5 an5 cd5 ct5), sl5⟩) (c5 : PySem.W.codeIn K cd5 "are_names" = true) (k5 : PySem.W.keepIn K (.ref f5) = true)
    {od6 an6 : Option Addr} {sl6 : Array (Option Value)} {oc6 kV6 dc6 pm6 cd6 ct6 : Value}
    (a6 : PySem.W.nsIn K mainGlobals "are_unlike" = some (some (.ref f6))) (l6 : K.lookup f6 = some ⟨oc6, od6, .func (PySem.W.fnOf "are_unlike" "are_unlike" (defArgs s_are_unlike) (defBody s_are_unlike) (defScope s_are_unlike) .none kV6 dc6 pm6 an6 cd6 ct6), sl6⟩) (c6 : PySem.W.codeIn K cd6 "are_unlike" = true) (k6 : PySem.W.keepIn K (.ref f6) = true)
    {od7 an7 : Option Addr} {sl7 : Array (Option Value)} {oc7 kV7 dc7 pm7 cd7 ct7 : Value}
    (a7 : PySem.W.nsIn K mainGlobals "is_headed" = some (some (.ref f7))) (l7 : K.lookup f7 = some ⟨oc7, od7, .func (PySem.W.fnOf "is_headed" "is_headed" (defArgs s_is_headed) (defBody s_is_headed) (defScope s_is_headed) .none kV7 dc7 pm7 an7 cd7 ct7), sl7⟩) (c7 : PySem.W.codeIn K cd7 "is_headed" = true) (k7 : PySem.W.keepIn K (.ref f7) = true)
    {od8 an8 : Option Addr} {sl8 : Array (Option Value)} {oc8 kV8 dc8 pm8 cd8 ct8 : Value}
    (a8 : PySem.W.nsIn K mainGlobals "are_headed" = some (some (.ref f8))) (l8 : K.lookup f8 = some ⟨oc8, od8, .func (PySem.W.fnOf "are_headed" "are_headed" (defArgs s_are_headed) (defBody s_are_headed) (defScope s_are_headed) .none kV8 dc8 pm8 an8 cd8 ct8), sl8⟩) (c8 : PySem.W.codeIn K cd8 "are_headed" = true) (k8 : PySem.W.keepIn K (.ref f8) = true)
    {od9 an9 : Option Addr} {sl9 : Array (Option Value)} {oc9 kV9 dc9 pm9 cd9 ct9 : Value}
    (a9 : PySem.W.nsIn K mainGlobals "is_program" = some (some (.ref f9))) (l9 : K.lookup f9 = some ⟨oc9, od9, .func (PySem.W.fnOf "is_program" "is_program" (defArgs s_is_program) (defBody s_is_program) (defScope s_is_program) .none kV9 dc9 pm9 an9 cd9 ct9), sl9⟩) (c9 : PySem.W.codeIn K cd9 "is_program" = true) (k9 : PySem.W.keepIn K (.ref f9) = true)
    {od10 an10 : Option Addr} {sl10 : Array (Option Value)} {oc10 kV10 dc10 pm10 cd10 ct10 : Value}
    (a10 : PySem.W.nsIn K mainGlobals "are_rows" = some (some (.ref f10))) (l10 : K.lookup f10 = some ⟨oc10, od10, .func (PySem.W.fnOf "are_rows" "are_rows" (defArgs s_are_rows) (defBody s_are_rows) (defScope s_are_rows) .none kV10 dc10 pm10 an10 cd10 ct10), sl10⟩) (c10 : PySem.W.codeIn K cd10 "are_rows" = true) (k10 : PySem.W.keepIn K (.ref f10) = true)
    {od11 an11 : Option Addr} {sl11 : Array (Option Value)} {oc11 kV11 dc11 pm11 cd11 ct11 : Value}
    (a11 : PySem.W.nsIn K mainGlobals "is_row" = some (some (.ref f11))) (l11 : K.lookup f11 = some ⟨oc11, od11, .func (PySem.W.fnOf "is_row" "is_row" (defArgs s_is_row) (defBody s_is_row) (defScope s_is_row) .none kV11 dc11 pm11 an11 cd11 ct11), sl11⟩) (c11 : PySem.W.codeIn K cd11 "is_row" = true) (k11 : PySem.W.keepIn K (.ref f11) = true)
    {od12 an12 : Option Addr} {sl12 : Array (Option Value)} {oc12 kV12 dc12 pm12 cd12 ct12 : Value}
    (a12 : PySem.W.nsIn K mainGlobals "check_program" = some (some (.ref f12))) (l12 : K.lookup f12 = some ⟨oc12, od12, .func (PySem.W.fnOf "check_program" "check_program" (defArgs s_check) (defBody s_check) (defScope s_check) .none kV12 dc12 pm12 an12 cd12 ct12), sl12⟩) (c12 : PySem.W.codeIn K cd12 "check_program" = true) (k12 : PySem.W.keepIn K (.ref f12) = true)
    {od13 an13 : Option Addr} {sl13 : Array (Option Value)} {oc13 kV13 dc13 pm13 cd13 ct13 : Value}
    (a13 : PySem.W.nsIn K mainGlobals "number_by_tens" = some (some (.ref f13))) (l13 : K.lookup f13 = some ⟨oc13, od13, .func (PySem.W.fnOf "number_by_tens" "number_by_tens" (defArgs s_tens) (defBody s_tens) (defScope s_tens) .none kV13 dc13 pm13 an13 cd13 ct13), sl13⟩) (c13 : PySem.W.codeIn K cd13 "number_by_tens" = true) (k13 : PySem.W.keepIn K (.ref f13) = true)
    {od14 an14 : Option Addr} {sl14 : Array (Option Value)} {oc14 kV14 dc14 pm14 cd14 ct14 : Value}
    (a14 : PySem.W.nsIn K mainGlobals "number_by_tens_or_sixteens" = some (some (.ref f14))) (l14 : K.lookup f14 = some ⟨oc14, od14, .func (PySem.W.fnOf "number_by_tens_or_sixteens" "number_by_tens_or_sixteens" (defArgs s_both) (defBody s_both) (defScope s_both) .none kV14 dc14 pm14 an14 cd14 ct14), sl14⟩) (c14 : PySem.W.codeIn K cd14 "number_by_tens_or_sixteens" = true) (k14 : PySem.W.keepIn K (.ref f14) = true)
    {od15 an15 : Option Addr} {sl15 : Array (Option Value)} {oc15 kV15 dc15 pm15 cd15 ct15 : Value}
    (a15 : PySem.W.nsIn K mainGlobals "signed_number" = some (some (.ref f15))) (l15 : K.lookup f15 = some ⟨oc15, od15, .func (PySem.W.fnOf "signed_number" "signed_number" (defArgs s_signed) (defBody s_signed) (defScope s_signed) .none kV15 dc15 pm15 an15 cd15 ct15), sl15⟩) (c15 : PySem.W.codeIn K cd15 "signed_number" = true) (k15 : PySem.W.keepIn K (.ref f15) = true)
    {od16 an16 : Option Addr} {sl16 : Array (Option Value)} {oc16 kV16 dc16 pm16 cd16 ct16 : Value}
    (a16 : PySem.W.nsIn K mainGlobals "plain_number" = some (some (.ref f16))) (l16 : K.lookup f16 = some ⟨oc16, od16, .func (PySem.W.fnOf "plain_number" "plain_number" (defArgs s_plain) (defBody s_plain) (defScope s_plain) .none kV16 dc16 pm16 an16 cd16 ct16), sl16⟩) (c16 : PySem.W.codeIn K cd16 "plain_number" = true) (k16 : PySem.W.keepIn K (.ref f16) = true)
    {od17 an17 : Option Addr} {sl17 : Array (Option Value)} {oc17 kV17 dc17 pm17 cd17 ct17 : Value}
    (a17 : PySem.W.nsIn K mainGlobals "show_program" = some (some (.ref f17))) (l17 : K.lookup f17 = some ⟨oc17, od17, .func (PySem.W.fnOf "show_program" "show_program" (defArgs s_show) (defBody s_show) (defScope s_show) .none kV17 dc17 pm17 an17 cd17 ct17), sl17⟩) (c17 : PySem.W.codeIn K cd17 "show_program" = true) (k17 : PySem.W.keepIn K (.ref f17) = true)
    {od18 an18 : Option Addr} {sl18 : Array (Option Value)} {oc18 kV18 dc18 pm18 cd18 ct18 : Value}
    (a18 : PySem.W.nsIn K mainGlobals "read_program" = some (some (.ref f18))) (l18 : K.lookup f18 = some ⟨oc18, od18, .func (PySem.W.fnOf "read_program" "read_program" (defArgs s_read) (defBody s_read) (defScope s_read) .none kV18 dc18 pm18 an18 cd18 ct18), sl18⟩) (c18 : PySem.W.codeIn K cd18 "read_program" = true) (k18 : PySem.W.keepIn K (.ref f18) = true)
    {od19 an19 : Option Addr} {sl19 : Array (Option Value)} {oc19 kV19 dc19 pm19 cd19 ct19 : Value}
    (a19 : PySem.W.nsIn K mainGlobals "is_heading" = some (some (.ref f19))) (l19 : K.lookup f19 = some ⟨oc19, od19, .func (PySem.W.fnOf "is_heading" "is_heading" (defArgs s_heading) (defBody s_heading) (defScope s_heading) .none kV19 dc19 pm19 an19 cd19 ct19), sl19⟩) (c19 : PySem.W.codeIn K cd19 "is_heading" = true) (k19 : PySem.W.keepIn K (.ref f19) = true)
    {od20 an20 : Option Addr} {sl20 : Array (Option Value)} {oc20 kV20 dc20 pm20 cd20 ct20 : Value}
    (a20 : PySem.W.nsIn K mainGlobals "has_rows" = some (some (.ref f20))) (l20 : K.lookup f20 = some ⟨oc20, od20, .func (PySem.W.fnOf "has_rows" "has_rows" (defArgs s_hasrows) (defBody s_hasrows) (defScope s_hasrows) .none kV20 dc20 pm20 an20 cd20 ct20), sl20⟩) (c20 : PySem.W.codeIn K cd20 "has_rows" = true) (k20 : PySem.W.keepIn K (.ref f20) = true)
    {od21 an21 : Option Addr} {sl21 : Array (Option Value)} {oc21 kV21 dc21 pm21 cd21 ct21 : Value}
    (a21 : PySem.W.nsIn K mainGlobals "is_numbered" = some (some (.ref f21))) (l21 : K.lookup f21 = some ⟨oc21, od21, .func (PySem.W.fnOf "is_numbered" "is_numbered" (defArgs s_numbered) (defBody s_numbered) (defScope s_numbered) .none kV21 dc21 pm21 an21 cd21 ct21), sl21⟩) (c21 : PySem.W.codeIn K cd21 "is_numbered" = true) (k21 : PySem.W.keepIn K (.ref f21) = true)
    {od22 an22 : Option Addr} {sl22 : Array (Option Value)} {oc22 kV22 dc22 pm22 cd22 ct22 : Value}
    (a22 : PySem.W.nsIn K mainGlobals "read_row" = some (some (.ref f22))) (l22 : K.lookup f22 = some ⟨oc22, od22, .func (PySem.W.fnOf "read_row" "read_row" (defArgs s_rrow) (defBody s_rrow) (defScope s_rrow) .none kV22 dc22 pm22 an22 cd22 ct22), sl22⟩) (c22 : PySem.W.codeIn K cd22 "read_row" = true) (k22 : PySem.W.keepIn K (.ref f22) = true)
    {od23 an23 : Option Addr} {sl23 : Array (Option Value)} {oc23 kV23 dc23 pm23 cd23 ct23 : Value}
    (a23 : PySem.W.nsIn K mainGlobals "_law_bag" = some (some (.ref f23))) (l23 : K.lookup f23 = some ⟨oc23, od23, .func (PySem.W.fnOf "_law_bag" "_law_bag" (defArgs s_bag) (defBody s_bag) (defScope s_bag) .none kV23 dc23 pm23 an23 cd23 ct23), sl23⟩) (c23 : PySem.W.codeIn K cd23 "_law_bag" = true) (k23 : PySem.W.keepIn K (.ref f23) = true)
    {od24 an24 : Option Addr} {sl24 : Array (Option Value)} {oc24 kV24 dc24 pm24 cd24 ct24 : Value}
    (a24 : PySem.W.nsIn K mainGlobals "_law_take" = some (some (.ref f24))) (l24 : K.lookup f24 = some ⟨oc24, od24, .func (PySem.W.fnOf "_law_take" "_law_take" (defArgs s_take) (defBody s_take) (defScope s_take) .none kV24 dc24 pm24 an24 cd24 ct24), sl24⟩) (c24 : PySem.W.codeIn K cd24 "_law_take" = true) (k24 : PySem.W.keepIn K (.ref f24) = true)
    {od25 an25 : Option Addr} {sl25 : Array (Option Value)} {oc25 kV25 dc25 pm25 cd25 ct25 : Value}
    (a25 : PySem.W.nsIn K mainGlobals "_law_names" = some (some (.ref f25))) (l25 : K.lookup f25 = some ⟨oc25, od25, .func (PySem.W.fnOf "_law_names" "_law_names" (defArgs s_nm) (defBody s_nm) (defScope s_nm) .none kV25 dc25 pm25 an25 cd25 ct25), sl25⟩) (c25 : PySem.W.codeIn K cd25 "_law_names" = true) (k25 : PySem.W.keepIn K (.ref f25) = true)
    {od26 an26 : Option Addr} {sl26 : Array (Option Value)} {oc26 kV26 dc26 pm26 cd26 ct26 : Value}
    (a26 : PySem.W.nsIn K mainGlobals "_law_worth" = some (some (.ref f26))) (l26 : K.lookup f26 = some ⟨oc26, od26, .func (PySem.W.fnOf "_law_worth" "_law_worth" (defArgs s_wo) (defBody s_wo) (defScope s_wo) .none kV26 dc26 pm26 an26 cd26 ct26), sl26⟩) (c26 : PySem.W.codeIn K cd26 "_law_worth" = true) (k26 : PySem.W.keepIn K (.ref f26) = true)
    {od27 an27 : Option Addr} {sl27 : Array (Option Value)} {oc27 kV27 dc27 pm27 cd27 ct27 : Value}
    (a27 : PySem.W.nsIn K mainGlobals "_law_row" = some (some (.ref f27))) (l27 : K.lookup f27 = some ⟨oc27, od27, .func (PySem.W.fnOf "_law_row" "_law_row" (defArgs s_ro) (defBody s_ro) (defScope s_ro) .none kV27 dc27 pm27 an27 cd27 ct27), sl27⟩) (c27 : PySem.W.codeIn K cd27 "_law_row" = true) (k27 : PySem.W.keepIn K (.ref f27) = true)
    {od28 an28 : Option Addr} {sl28 : Array (Option Value)} {oc28 kV28 dc28 pm28 cd28 ct28 : Value}
    (a28 : PySem.W.nsIn K mainGlobals "_law_program" = some (some (.ref f28))) (l28 : K.lookup f28 = some ⟨oc28, od28, .func (PySem.W.fnOf "_law_program" "_law_program" (defArgs s_pr) (defBody s_pr) (defScope s_pr) .none kV28 dc28 pm28 an28 cd28 ct28), sl28⟩) (c28 : PySem.W.codeIn K cd28 "_law_program" = true) (k28 : PySem.W.keepIn K (.ref f28) = true)
    {od29 an29 : Option Addr} {sl29 : Array (Option Value)} {oc29 kV29 dc29 pm29 cd29 ct29 : Value}
    (a29 : PySem.W.nsIn K mainGlobals "_law_figures" = some (some (.ref f29))) (l29 : K.lookup f29 = some ⟨oc29, od29, .func (PySem.W.fnOf "_law_figures" "_law_figures" (defArgs s_fg) (defBody s_fg) (defScope s_fg) .none kV29 dc29 pm29 an29 cd29 ct29), sl29⟩) (c29 : PySem.W.codeIn K cd29 "_law_figures" = true) (k29 : PySem.W.keepIn K (.ref f29) = true)
    {od30 an30 : Option Addr} {sl30 : Array (Option Value)} {oc30 kV30 dc30 pm30 cd30 ct30 : Value}
    (a30 : PySem.W.nsIn K mainGlobals "_law_written" = some (some (.ref f30))) (l30 : K.lookup f30 = some ⟨oc30, od30, .func (PySem.W.fnOf "_law_written" "_law_written" (defArgs s_wr) (defBody s_wr) (defScope s_wr) .none kV30 dc30 pm30 an30 cd30 ct30), sl30⟩) (c30 : PySem.W.codeIn K cd30 "_law_written" = true) (k30 : PySem.W.keepIn K (.ref f30) = true)
    {od31 an31 : Option Addr} {sl31 : Array (Option Value)} {oc31 kV31 dc31 pm31 cd31 ct31 : Value}
    (a31 : PySem.W.nsIn K mainGlobals "_law_odd" = some (some (.ref f31))) (l31 : K.lookup f31 = some ⟨oc31, od31, .func (PySem.W.fnOf "_law_odd" "_law_odd" (defArgs s_odd) (defBody s_odd) (defScope s_odd) .none kV31 dc31 pm31 an31 cd31 ct31), sl31⟩) (c31 : PySem.W.codeIn K cd31 "_law_odd" = true) (k31 : PySem.W.keepIn K (.ref f31) = true)
    {od32 an32 : Option Addr} {sl32 : Array (Option Value)} {oc32 kV32 dc32 pm32 cd32 ct32 : Value}
    (a32 : PySem.W.nsIn K mainGlobals "_law_put" = some (some (.ref f32))) (l32 : K.lookup f32 = some ⟨oc32, od32, .func (PySem.W.fnOf "_law_put" "_law_put" (defArgs s_pt) (defBody s_pt) (defScope s_pt) .none kV32 dc32 pm32 an32 cd32 ct32), sl32⟩) (c32 : PySem.W.codeIn K cd32 "_law_put" = true) (k32 : PySem.W.keepIn K (.ref f32) = true)
    {od33 an33 : Option Addr} {sl33 : Array (Option Value)} {oc33 kV33 dc33 pm33 cd33 ct33 : Value}
    (a33 : PySem.W.nsIn K mainGlobals "_law_otherwise" = some (some (.ref f33))) (l33 : K.lookup f33 = some ⟨oc33, od33, .func (PySem.W.fnOf "_law_otherwise" "_law_otherwise" (defArgs s_ot) (defBody s_ot) (defScope s_ot) .none kV33 dc33 pm33 an33 cd33 ct33), sl33⟩) (c33 : PySem.W.codeIn K cd33 "_law_otherwise" = true) (k33 : PySem.W.keepIn K (.ref f33) = true)
    {od34 an34 : Option Addr} {sl34 : Array (Option Value)} {oc34 kV34 dc34 pm34 cd34 ct34 : Value}
    (a34 : PySem.W.nsIn K mainGlobals "_law_is_name" = some (some (.ref f34))) (l34 : K.lookup f34 = some ⟨oc34, od34, .func (PySem.W.fnOf "_law_is_name" "_law_is_name" (defArgs s_isn) (defBody s_isn) (defScope s_isn) .none kV34 dc34 pm34 an34 cd34 ct34), sl34⟩) (c34 : PySem.W.codeIn K cd34 "_law_is_name" = true) (k34 : PySem.W.keepIn K (.ref f34) = true)
    {od35 an35 : Option Addr} {sl35 : Array (Option Value)} {oc35 kV35 dc35 pm35 cd35 ct35 : Value}
    (a35 : PySem.W.nsIn K mainGlobals "_law_is_whole" = some (some (.ref f35))) (l35 : K.lookup f35 = some ⟨oc35, od35, .func (PySem.W.fnOf "_law_is_whole" "_law_is_whole" (defArgs s_isw) (defBody s_isw) (defScope s_isw) .none kV35 dc35 pm35 an35 cd35 ct35), sl35⟩) (c35 : PySem.W.codeIn K cd35 "_law_is_whole" = true) (k35 : PySem.W.keepIn K (.ref f35) = true)
    {od36 an36 : Option Addr} {sl36 : Array (Option Value)} {oc36 kV36 dc36 pm36 cd36 ct36 : Value}
    (a36 : PySem.W.nsIn K mainGlobals "_law_is_row" = some (some (.ref f36))) (l36 : K.lookup f36 = some ⟨oc36, od36, .func (PySem.W.fnOf "_law_is_row" "_law_is_row" (defArgs s_isr) (defBody s_isr) (defScope s_isr) .none kV36 dc36 pm36 an36 cd36 ct36), sl36⟩) (c36 : PySem.W.codeIn K cd36 "_law_is_row" = true) (k36 : PySem.W.keepIn K (.ref f36) = true)
    {od37 an37 : Option Addr} {sl37 : Array (Option Value)} {oc37 kV37 dc37 pm37 cd37 ct37 : Value}
    (a37 : PySem.W.nsIn K mainGlobals "_law_is_program" = some (some (.ref f37))) (l37 : K.lookup f37 = some ⟨oc37, od37, .func (PySem.W.fnOf "_law_is_program" "_law_is_program" (defArgs s_isp) (defBody s_isp) (defScope s_isp) .none kV37 dc37 pm37 an37 cd37 ct37), sl37⟩) (c37 : PySem.W.codeIn K cd37 "_law_is_program" = true) (k37 : PySem.W.keepIn K (.ref f37) = true)
    {od38 an38 : Option Addr} {sl38 : Array (Option Value)} {oc38 kV38 dc38 pm38 cd38 ct38 : Value}
    (a38 : PySem.W.nsIn K mainGlobals "_law_told" = some (some (.ref f38))) (l38 : K.lookup f38 = some ⟨oc38, od38, .func (PySem.W.fnOf "_law_told" "_law_told" (defArgs s_td) (defBody s_td) (defScope s_td) .none kV38 dc38 pm38 an38 cd38 ct38), sl38⟩) (c38 : PySem.W.codeIn K cd38 "_law_told" = true) (k38 : PySem.W.keepIn K (.ref f38) = true)
    {od39 an39 : Option Addr} {sl39 : Array (Option Value)} {oc39 kV39 dc39 pm39 cd39 ct39 : Value}
    (a39 : PySem.W.nsIn K mainGlobals "_law_right" = some (some (.ref f39))) (l39 : K.lookup f39 = some ⟨oc39, od39, .func (PySem.W.fnOf "_law_right" "_law_right" (defArgs s_rt) (defBody s_rt) (defScope s_rt) .none kV39 dc39 pm39 an39 cd39 ct39), sl39⟩) (c39 : PySem.W.codeIn K cd39 "_law_right" = true) (k39 : PySem.W.keepIn K (.ref f39) = true)
    {od40 an40 : Option Addr} {sl40 : Array (Option Value)} {oc40 kV40 dc40 pm40 cd40 ct40 : Value}
    (a40 : PySem.W.nsIn K mainGlobals "_law_by_hand" = some (some (.ref f40))) (l40 : K.lookup f40 = some ⟨oc40, od40, .func (PySem.W.fnOf "_law_by_hand" "_law_by_hand" (defArgs s_bh) (defBody s_bh) (defScope s_bh) .none kV40 dc40 pm40 an40 cd40 ct40), sl40⟩) (c40 : PySem.W.codeIn K cd40 "_law_by_hand" = true) (k40 : PySem.W.keepIn K (.ref f40) = true)
    {od41 an41 : Option Addr} {sl41 : Array (Option Value)} {oc41 kV41 dc41 pm41 cd41 ct41 : Value}
    (a41 : PySem.W.nsIn K mainGlobals "law" = some (some (.ref f41))) (l41 : K.lookup f41 = some ⟨oc41, od41, .func (PySem.W.fnOf "law" "law" (defArgs s_law) (defBody s_law) (defScope s_law) .none kV41 dc41 pm41 an41 cd41 ct41), sl41⟩) (c41 : PySem.W.codeIn K cd41 "law" = true) (k41 : PySem.W.keepIn K (.ref f41) = true)
    {t1 : Tok} (m1 : PySem.W.nsIn K mainGlobals "MOST_WORTH" = some (some (.int 1000000000000 t1)))
    {t2 : Tok} (m2 : PySem.W.nsIn K mainGlobals "MOST_LETTERS" = some (some (.int 8 t2)))
    {t3 : Tok} (m3 : PySem.W.nsIn K mainGlobals "MOST_NAMES" = some (some (.int 3 t3)))
    {t4 : Tok} (m4 : PySem.W.nsIn K mainGlobals "MOST_PART_ROWS" = some (some (.int 60 t4)))
    {t5 : Tok} (m5 : PySem.W.nsIn K mainGlobals "MOST_PARTS" = some (some (.int 8 t5)))
    {t6 : Tok} (m6 : PySem.W.nsIn K mainGlobals "MOST_FIGURES" = some (some (.int 40 t6)))
    {t7 : Tok} (m7 : PySem.W.nsIn K mainGlobals "MOST_NUMBERED" = some (some (.int 100 t7)))
    {ts1 : Tok} (ms1 : PySem.W.nsIn K mainGlobals "TENS" = some (some (.str "0123456789" ts1)))
    {ts2 : Tok} (ms2 : PySem.W.nsIn K mainGlobals "SIXTEENS" = some (some (.str "0123456789abcdef" ts2)))
    {tN0 tN1 tN2 tN3 : Tok} {nN : Nat} (wN : PySem.W.nsIn K mainGlobals "NAME_WORDS" = some (some (.ref aN))) (qN : K.lookup aN = some ⟨.type "tuple", none, .seq (#[.str "get" tN0, .str "set" tN1, .str "look" tN2, .str "change" tN3]) nN, #[]⟩)
    {tR0 tR1 tR2 : Tok} {nR : Nat} (wR : PySem.W.nsIn K mainGlobals "ROW_WORDS" = some (some (.ref aR))) (qR : K.lookup aR = some ⟨.type "tuple", none, .seq (#[.str "go" tR0, .str "if" tR1, .str "try" tR2]) nR, #[]⟩)
    {tL0 tL1 tL2 tL3 tL4 tL5 tL6 tL7 tL8 tL9 tL10 tL11 tL12 tL13 tL14 : Tok} {nL : Nat} (wL : PySem.W.nsIn K mainGlobals "LONE_WORDS" = some (some (.ref aL))) (qL : K.lookup aL = some ⟨.type "tuple", none, .seq (#[.str "add" tL0, .str "less" tL1, .str "times" tL2, .str "over" tL3, .str "same" tL4, .str "below" tL5, .str "twin" tL6, .str "swap" tL7, .str "away" tL8, .str "say" tL9, .str "back" tL10, .str "throw" tL11, .str "done" tL12, .str "lead" tL13, .str "turn" tL14]) nL, #[]⟩)
    (z1 : PySem.W.nsIn K mainGlobals "isinstance" = some none)
    (z2 : PySem.W.nsIn K mainGlobals "len" = some none)
    (z3 : PySem.W.nsIn K mainGlobals "all" = some none)
    (z4 : PySem.W.nsIn K mainGlobals "enumerate" = some none)
    (z5 : PySem.W.nsIn K mainGlobals "set" = some none)
    (z6 : PySem.W.nsIn K mainGlobals "int" = some none)
    (z7 : PySem.W.nsIn K mainGlobals "bool" = some none)
    (z8 : PySem.W.nsIn K mainGlobals "str" = some none)
    (z9 : PySem.W.nsIn K mainGlobals "tuple" = some none)
    (z10 : PySem.W.nsIn K mainGlobals "list" = some none)
    (z11 : PySem.W.nsIn K mainGlobals "range" = some none)
    (z12 : PySem.W.nsIn K mainGlobals "abs" = some none)
    (z13 : PySem.W.nsIn K mainGlobals "max" = some none)
    (z14 : PySem.W.nsIn K mainGlobals "min" = some none)
    (z15 : PySem.W.nsIn K mainGlobals "repr" = some none)
    (z16 : PySem.W.nsIn K mainGlobals "ValueError" = some none)
    : ∃ fd : FuncData, (∀ (s : Shared) (v : Value), BindsTo s fd ⟨[v], []⟩ [("_law_script", v)]) ∧ ∀ base : Heap, K.In base → base.Ns mainGlobals mg → FnG l.prog w K mg base 13 fa fd ["_law_script"] (spLaw K) := by
  have e := hfa.symm.trans (PySem.W.mg_of X G a41)
  cases e
  have D1 := def_mk (st := s_is_whole) (ps := ["thing"]) X G a1 l1 c1 k1 fun _ _ _ _ _ _ us hl => match us, hl with | [_], _ => rfl
  have D2 := def_mk (st := s_is_worth) (ps := ["thing"]) X G a2 l2 c2 k2 fun _ _ _ _ _ _ us hl => match us, hl with | [_], _ => rfl
  have D3 := def_mk (st := s_is_index) (ps := ["thing", "many"]) X G a3 l3 c3 k3 fun _ _ _ _ _ _ us hl => match us, hl with | [_, _], _ => rfl
  have D4 := def_mk (st := s_is_name) (ps := ["thing"]) X G a4 l4 c4 k4 fun _ _ _ _ _ _ us hl => match us, hl with | [_], _ => rfl
  have D5 := def_mk (st := s_are_names) (ps := ["thing"]) X G a5 l5 c5 k5 fun _ _ _ _ _ _ us hl => match us, hl with | [_], _ => rfl
  have D6 := def_mk (st := s_are_unlike) (ps := ["names"]) X G a6 l6 c6 k6 fun _ _ _ _ _ _ us hl => match us, hl with | [_], _ => rfl
  have D7 := def_mk (st := s_is_headed) (ps := ["thing"]) X G a7 l7 c7 k7 fun _ _ _ _ _ _ us hl => match us, hl with | [_], _ => rfl
  have D8 := def_mk (st := s_are_headed) (ps := ["thing", "most"]) X G a8 l8 c8 k8 fun _ _ _ _ _ _ us hl => match us, hl with | [_, _], _ => rfl
  have D9 := def_mk (st := s_is_program) (ps := ["thing"]) X G a9 l9 c9 k9 fun _ _ _ _ _ _ us hl => match us, hl with | [_], _ => rfl
  have D10 := def_mk (st := s_are_rows) (ps := ["thing", "called"]) X G a10 l10 c10 k10 fun _ _ _ _ _ _ us hl => match us, hl with | [_, _], _ => rfl
  have D11 := def_mk (st := s_is_row) (ps := ["thing", "at", "many", "called"]) X G a11 l11 c11 k11 fun _ _ _ _ _ _ us hl => match us, hl with | [_, _, _, _], _ => rfl
  have D12 := def_mk (st := s_check) (ps := ["thing"]) X G a12 l12 c12 k12 fun _ _ _ _ _ _ us hl => match us, hl with | [_], _ => rfl
  have D13 := def_mk (st := s_tens) (ps := ["text"]) X G a13 l13 c13 k13 fun _ _ _ _ _ _ us hl => match us, hl with | [_], _ => rfl
  have D14 := def_mk (st := s_both) (ps := ["text"]) X G a14 l14 c14 k14 fun _ _ _ _ _ _ us hl => match us, hl with | [_], _ => rfl
  have D15 := def_mk (st := s_signed) (ps := ["text", "ahead", "signs"]) X G a15 l15 c15 k15 fun _ _ _ _ _ _ us hl => match us, hl with | [_, _, _], _ => rfl
  have D16 := def_mk (st := s_plain) (ps := ["figures", "signs"]) X G a16 l16 c16 k16 fun _ _ _ _ _ _ us hl => match us, hl with | [_, _], _ => rfl
  have D17 := def_mk (st := s_show) (ps := ["program"]) X G a17 l17 c17 k17 fun _ _ _ _ _ _ us hl => match us, hl with | [_], _ => rfl
  have D18 := def_mk (st := s_read) (ps := ["text"]) X G a18 l18 c18 k18 fun _ _ _ _ _ _ us hl => match us, hl with | [_], _ => rfl
  have D19 := def_mk (st := s_heading) (ps := ["words"]) X G a19 l19 c19 k19 fun _ _ _ _ _ _ us hl => match us, hl with | [_], _ => rfl
  have D20 := def_mk (st := s_hasrows) (ps := ["parts"]) X G a20 l20 c20 k20 fun _ _ _ _ _ _ us hl => match us, hl with | [_], _ => rfl
  have D21 := def_mk (st := s_numbered) (ps := ["word", "at"]) X G a21 l21 c21 k21 fun _ _ _ _ _ _ us hl => match us, hl with | [_, _], _ => rfl
  have D22 := def_mk (st := s_rrow) (ps := ["words"]) X G a22 l22 c22 k22 fun _ _ _ _ _ _ us hl => match us, hl with | [_], _ => rfl
  have D23 := def_mk (st := s_bag) (ps := ["_law_script", "_law_at"]) X G a23 l23 c23 k23 fun _ _ _ _ _ _ us hl => match us, hl with | [_, _], _ => rfl
  have D24 := def_mk (st := s_take) (ps := ["_law_bag_here", "_law_many"]) X G a24 l24 c24 k24 fun _ _ _ _ _ _ us hl => match us, hl with | [_, _], _ => rfl
  have D25 := def_mk (st := s_nm) (ps := ["_law_bag_here", "_law_many"]) X G a25 l25 c25 k25 fun _ _ _ _ _ _ us hl => match us, hl with | [_, _], _ => rfl
  have D26 := def_mk (st := s_wo) (ps := ["_law_bag_here"]) X G a26 l26 c26 k26 fun _ _ _ _ _ _ us hl => match us, hl with | [_], _ => rfl
  have D27 := def_mk (st := s_ro) (ps := ["_law_bag_here", "_law_parts", "_law_at", "_law_many"]) X G a27 l27 c27 k27 fun _ _ _ _ _ _ us hl => match us, hl with | [_, _, _, _], _ => rfl
  have D28 := def_mk (st := s_pr) (ps := ["_law_bag_here"]) X G a28 l28 c28 k28 fun _ _ _ _ _ _ us hl => match us, hl with | [_], _ => rfl
  have D29 := def_mk (st := s_fg) (ps := ["_law_number"]) X G a29 l29 c29 k29 fun _ _ _ _ _ _ us hl => match us, hl with | [_], _ => rfl
  have D30 := def_mk (st := s_wr) (ps := ["_law_program_here"]) X G a30 l30 c30 k30 fun _ _ _ _ _ _ us hl => match us, hl with | [_], _ => rfl
  have D31 := def_mk (st := s_odd) (ps := ["_law_bag_here"]) X G a31 l31 c31 k31 fun _ _ _ _ _ _ us hl => match us, hl with | [_], _ => rfl
  have D32 := def_mk (st := s_pt) (ps := ["_law_bag_here", "_law_thing"]) X G a32 l32 c32 k32 fun _ _ _ _ _ _ us hl => match us, hl with | [_, _], _ => rfl
  have D33 := def_mk (st := s_ot) (ps := ["_law_bag_here", "_law_thing"]) X G a33 l33 c33 k33 fun _ _ _ _ _ _ us hl => match us, hl with | [_, _], _ => rfl
  have D34 := def_mk (st := s_isn) (ps := ["_law_thing"]) X G a34 l34 c34 k34 fun _ _ _ _ _ _ us hl => match us, hl with | [_], _ => rfl
  have D35 := def_mk (st := s_isw) (ps := ["_law_thing", "_law_least", "_law_most"]) X G a35 l35 c35 k35 fun _ _ _ _ _ _ us hl => match us, hl with | [_, _, _], _ => rfl
  have D36 := def_mk (st := s_isr) (ps := ["_law_thing", "_law_at", "_law_many", "_law_called"]) X G a36 l36 c36 k36 fun _ _ _ _ _ _ us hl => match us, hl with | [_, _, _, _], _ => rfl
  have D37 := def_mk (st := s_isp) (ps := ["_law_thing"]) X G a37 l37 c37 k37 fun _ _ _ _ _ _ us hl => match us, hl with | [_], _ => rfl
  have D38 := def_mk (st := s_td) (ps := ["_law_deed", "_law_thing"]) X G a38 l38 c38 k38 fun _ _ _ _ _ _ us hl => match us, hl with | [_, _], _ => rfl
  have D39 := def_mk (st := s_rt) (ps := ["_law_thing"]) X G a39 l39 c39 k39 fun _ _ _ _ _ _ us hl => match us, hl with | [_], _ => rfl
  have D40 := def_mk (st := s_bh) (ps := []) X G a40 l40 c40 k40 fun _ _ _ _ _ _ us hl => match us, hl with | [], _ => rfl
  have D41 := def_mk (st := s_law) (ps := ["_law_script"]) X G a41 l41 c41 k41 fun _ _ _ _ _ _ us hl => match us, hl with | [_], _ => rfl
  have B : Blt mg := ⟨PySem.W.mg_none_of X G z1, PySem.W.mg_none_of X G z2, PySem.W.mg_none_of X G z3, PySem.W.mg_none_of X G z4, PySem.W.mg_none_of X G z5, PySem.W.mg_none_of X G z6, PySem.W.mg_none_of X G z7, PySem.W.mg_none_of X G z8, PySem.W.mg_none_of X G z9, PySem.W.mg_none_of X G z10, PySem.W.mg_none_of X G z11⟩
  have B2 : Blt2 mg := ⟨PySem.W.mg_none_of X G z12, PySem.W.mg_none_of X G z13, PySem.W.mg_none_of X G z14, PySem.W.mg_none_of X G z15⟩
  have Ws : Words K mg aN aR aL := ⟨PySem.W.mg_of X G wN, PySem.W.mg_of X G wR, PySem.W.mg_of X G wL, word_tup (its := [_, _, _, _]) qN (Nat.le_of_ble_eq_true rfl) (.cons ⟨_, rfl⟩ (.cons ⟨_, rfl⟩ (.cons ⟨_, rfl⟩ (.cons ⟨_, rfl⟩ .nil)))), word_tup (its := [_, _, _]) qR (Nat.le_of_ble_eq_true rfl) (.cons ⟨_, rfl⟩ (.cons ⟨_, rfl⟩ (.cons ⟨_, rfl⟩ .nil))), word_tup (its := [_, _, _, _, _, _, _, _, _, _, _, _, _, _, _]) qL (Nat.le_of_ble_eq_true rfl) (.cons ⟨_, rfl⟩ (.cons ⟨_, rfl⟩ (.cons ⟨_, rfl⟩ (.cons ⟨_, rfl⟩ (.cons ⟨_, rfl⟩ (.cons ⟨_, rfl⟩ (.cons ⟨_, rfl⟩ (.cons ⟨_, rfl⟩ (.cons ⟨_, rfl⟩ (.cons ⟨_, rfl⟩ (.cons ⟨_, rfl⟩ (.cons ⟨_, rfl⟩ (.cons ⟨_, rfl⟩ (.cons ⟨_, rfl⟩ (.cons ⟨_, rfl⟩ .nil)))))))))))))))⟩
  have M1 := PySem.W.mg_of X G m1
  have M2 := PySem.W.mg_of X G m2
  have M3 := PySem.W.mg_of X G m3
  have M4 := PySem.W.mg_of X G m4
  have M5 := PySem.W.mg_of X G m5
  have M6 := PySem.W.mg_of X G m6
  have M7 := PySem.W.mg_of X G m7
  have T : NgC K mg C := ⟨PySem.W.mg_of X G aC, xC, kC, eC, tC⟩
  have te := exm_self eC iC tC sC
  have XT : ExcC K C := ⟨hg, hk, eC, hd, ha, hn, ht, hm⟩
  have O : OthC K mg C cU [d0, d1, d2, d3, d4, d5, d6, d7, d8, d9] := ⟨rfl, PySem.W.mg_of X G b0, PySem.W.mg_of X G b1, PySem.W.mg_of X G b2, PySem.W.mg_of X G b3, PySem.W.mg_of X G b4, PySem.W.mg_of X G b5, PySem.W.mg_of X G b6, PySem.W.mg_of X G b7, PySem.W.mg_of X G b8, PySem.W.mg_of X G b9, PySem.W.mg_of X G aU, PySem.W.mg_none_of X G z16, (kitAny_cons o0 (fun _ => (kitAny_cons o1 (fun _ => (kitAny_cons o2 (fun _ => (kitAny_cons o3 (fun _ => (kitAny_cons o4 (fun _ => (kitAny_cons o5 (fun _ => (kitAny_cons o6 (fun _ => (kitAny_cons o7 (fun _ => (kitAny_cons o8 (fun _ => (kitAny_cons o9 (fun _ => kitAny_nil) (fun z => nomatch z))) (fun z => nomatch z))) (fun z => nomatch z))) (fun z => nomatch z))) (fun z => nomatch z))) (fun z => nomatch z))) (fun z => nomatch z))) (fun z => nomatch z))) (fun z => nomatch z))) (fun z => nomatch z)), oV, oU⟩
  have S1 := PySem.W.mg_of X G ms1
  have S2 := PySem.W.mg_of X G ms2
  refine ⟨PySem.W.fnOf "law" "law" (defArgs s_law) (defBody s_law) (defScope s_law) .none kV41 dc41 pm41 an41 cd41 ct41, fun s v => .of_eq rfl, fun base _ _ => ?_⟩
  have g1 := ok_is_name (P := l.prog) (w := w) (base := base) D4 B M2
  have g2 := ok_are_names (P := l.prog) (w := w) (base := base) D5 D4 D6 B M2 M3
  have g3 := ok_is_headed D7 D4 g1 D5 g2 B
  have g4 := ok_are_headed D8 D7 g3 D6 B
  have g5 := ok_is_worth (P := l.prog) (w := w) (base := base) D2 D1 B M1
  have g6 := ok_is_index (P := l.prog) (w := w) (base := base) D3 D1 B
  have g7 := ok_is_row D11 D2 g5 D4 g1 D3 g6 B Ws
  have g8 := ok_are_rows D10 D11 g7 B M4
  have g9 := ok_is_program D9 D8 g4 D10 g8 B M5
  have gck := ok_check D12 D9 g9
  have gpl := ok_plain (P := l.prog) (w := w) (base := base) D16 B M6
  have gsg := ok_signed D15 D16 gpl B
  have gte := ok_tens D13 D15 gsg S1
  have gbo := ok_both D14 D15 gsg D13 gte S2
  have grr := ok_rrow D22 D4 g1 D13 gte D14 gbo B Ws
  have gnb := ok_numbered (P := l.prog) (w := w) (base := base) D21 M7
  have ghd := ok_heading D19 D4 g1 B
  have ghr := ok_hasrows (P := l.prog) (w := w) (base := base) D20 B
  have gsh := ok_show D17 D12 gck B
  have gbg := ok_bag (P := l.prog) (w := w) (base := base) D23 B B2
  have gnm := ok_nm (P := l.prog) (w := w) (base := base) D25 D24 B
  have gwo := ok_wo (P := l.prog) (w := w) (base := base) D26 D24
  have gro := ok_ro D27 D24 D26 gwo D25 gnm B
  have gpr := ok_pr D28 D24 D25 gnm D27 gro B
  have gfg := ok_fg (P := l.prog) (w := w) (base := base) D29
  have gwr := ok_wr D30 D29 gfg B
  have gcx := ok_checkX T D12 D9 g9
  have gsr := ok_showR D17 D12 gcx
  have grx := ok_readR D18 D19 ghd D20 ghr D21 gnb D22 grr D12 gcx B
  have god := ok_odd (P := l.prog) (w := w) (base := base) D31 D24 B
  have gpt := ok_pt D32 D24 D31 god B
  have g4' := ok_ot D33 D24 D32 gpt B 4 (by decide)
  have g8' := ok_ot D33 D24 D32 gpt B 8 (by decide)
  have gin := ok_isn (P := l.prog) (w := w) (base := base) D34 B
  have gir := ok_isr (P := l.prog) (w := w) (base := base) D36 D35 D34 B
  have gip := ok_isp D37 D36 gir D34 gin B
  have gts := ok_td (sp := spShX K C) D38 (FnOk.or0 gsh gsr) D17.F.kp D17.b T XT O te B fun v H Q E E' h m => h.imp id fun ⟨b, d, kn, hd, ho, hp, q⟩ => ⟨b, d, kn, hd, ho, hp, fun H' x => m _ _ _ (q H' x)⟩
  have gtr := ok_td (sp := spRdR K C) D38 grx D18.F.kp D18.b T XT O te B fun v H Q E E' ⟨b, u, x, st, e, kn, hd, R, q⟩ m => ⟨b, u, x, st, e, kn, hd, R, fun H' x => m _ _ _ (q H' x)⟩
  have grt := ok_rt D39 D37 gip D17 D38 gts D9 g9 D30 gwr B B2
  have gbh := ok_bh (P := l.prog) (w := w) (base := base) D40 B
  exact ok_law D41 B B2 D23 gbg D28 gpr D24 D39 grt D33 g4' g8' D18 D38 gtr D30 gwr D40 gbh
theorem walkG {l : PySem.W.OpenLaw} {q : Program} {loose : List Str} {XP : (Str → Option Value) → Heap → Prop} {YP : World → Heap → Prop} {d : DefRec} {K : Params → PySem.W.Frag} (hn : l.most = some 63) (hdf : d.params.defaults = [])
    (hY : ∀ (w : World) (h : Heap), YP w h → (K w.params).In h)
    (F : ∀ (w : World) (mg : Str → Option Value) (fa : Addr) (h : Heap), (K w.params).In h → h.Ns mainGlobals mg → mg d.name = some (.ref fa) →
      ∃ fd : FuncData, (∀ (s : Shared) (u : Value), BindsTo s fd ⟨[u], []⟩ [("_law_script", u)]) ∧ ∀ base : Heap, (K w.params).In base → base.Ns mainGlobals mg → FnG l.prog w (K w.params) mg base 13 fa fd ["_law_script"] (spLaw (K w.params))) :
    PySem.W.WalkO q loose XP YP l.row.toRowW d [] (fun f vs => PySem.call f vs) :=
  Att.attach_call hn hdf fun w s₀ s₁ mg mb fa o pm cd doc a vs ns G Y ho hd hcd hmg hobj hints hlen hge => by
    have KX := hY w _ Y
    obtain ⟨fd, hb, hF⟩ := F w mg fa _ KX G.T.g hmg
    exact law_goG KX G.T.g G.T.b G.T.builtins G.T.nolimit hge hobj hints (Nat.le_trans hlen (by decide)) ⟨rfl, by decide, by decide⟩ hF hb fun H hS => ⟨a, ns, rfl, hS, by omega, fun _ => rfl⟩
end Wr

set_option Elab.async false
set_option linter.all false
open PySem PySem.W PyProof.Rows
set_option maxRecDepth 100000 in
set_option maxHeartbeats 0 in
theorem PySem.Challenge.cw_watchedrun_k70_no_programs_holds : PySem.Challenge.rw_watchedrun_k70_no_programs.Holds := by
  w_on; o_law; k_head; (case hw => w_witness2)
  k_fill
  refine Wr.walkG (l := PySem.Challenge.rw_watchedrun_k70_no_programs) rfl rfl (fun w h Y => PySem.W.kIn_of Y) ?F
  case F =>
    intro w mg fa h KX G hmg
    refine' Wr.all_mk KX G hmg ?aC ?xC ?kC ?eC ?tC ?iC ?sC ?hg ?hk ?hd ?ha ?hn ?ht ?hm ?oV ?aU ?oU ?b0 ?o0 ?b1 ?o1 ?b2 ?o2 ?b3 ?o3 ?b4 ?o4 ?b5 ?o5 ?b6 ?o6 ?b7 ?o7 ?b8 ?o8 ?b9 ?o9 ?a1 ?l1 ?c1 ?k1 ?a2 ?l2 ?c2 ?k2 ?a3 ?l3 ?c3 ?k3 ?a4 ?l4 ?c4 ?k4 ?a5 ?l5 ?c5 ?k5 ?a6 ?l6 ?c6 ?k6 ?a7 ?l7 ?c7 ?k7 ?a8 ?l8 ?c8 ?k8 ?a9 ?l9 ?c9 ?k9 ?a10 ?l10 ?c10 ?k10 ?a11 ?l11 ?c11 ?k11 ?a12 ?l12 ?c12 ?k12 ?a13 ?l13 ?c13 ?k13 ?a14 ?l14 ?c14 ?k14 ?a15 ?l15 ?c15 ?k15 ?a16 ?l16 ?c16 ?k16 ?a17 ?l17 ?c17 ?k17 ?a18 ?l18 ?c18 ?k18 ?a19 ?l19 ?c19 ?k19 ?a20 ?l20 ?c20 ?k20 ?a21 ?l21 ?c21 ?k21 ?a22 ?l22 ?c22 ?k22 ?a23 ?l23 ?c23 ?k23 ?a24 ?l24 ?c24 ?k24 ?a25 ?l25 ?c25 ?k25 ?a26 ?l26 ?c26 ?k26 ?a27 ?l27 ?c27 ?k27 ?a28 ?l28 ?c28 ?k28 ?a29 ?l29 ?c29 ?k29 ?a30 ?l30 ?c30 ?k30 ?a31 ?l31 ?c31 ?k31 ?a32 ?l32 ?c32 ?k32 ?a33 ?l33 ?c33 ?k33 ?a34 ?l34 ?c34 ?k34 ?a35 ?l35 ?c35 ?k35 ?a36 ?l36 ?c36 ?k36 ?a37 ?l37 ?c37 ?k37 ?a38 ?l38 ?c38 ?k38 ?a39 ?l39 ?c39 ?k39 ?a40 ?l40 ?c40 ?k40 ?a41 ?l41 ?c41 ?k41 ?m1 ?m2 ?m3 ?m4 ?m5 ?m6 ?m7 ?ms1 ?ms2 ?wN ?qN ?wR ?qR ?wL ?qL ?z1 ?z2 ?z3 ?z4 ?z5 ?z6 ?z7 ?z8 ?z9 ?z10 ?z11 ?z12 ?z13 ?z14 ?z15 ?z16
    (case aC => first | k_is | rfl)
    (case xC => k_exc)
    (case kC => first | k_is | rfl)
    (case eC => first | k_is | rfl)
    (case tC => first | k_is | rfl)
    (case iC => first | k_is | rfl)
    (case sC => first | k_is | rfl)
    (case hg => first | k_is | rfl)
    (case hk => first | k_is | rfl)
    (case hd => first | k_is | rfl)
    (case ha => first | k_is | rfl)
    (case hn => first | k_is | rfl)
    (case ht => first | k_is | rfl)
    (case hm => first | k_is | rfl)
    (case oV => first | k_is | rfl)
    (case aU => first | k_is | rfl)
    (case oU => first | k_is | rfl)
    (case b0 => first | k_is | rfl)
    (case o0 => first | k_is | rfl)
    (case b1 => first | k_is | rfl)
    (case o1 => first | k_is | rfl)
    (case b2 => first | k_is | rfl)
    (case o2 => first | k_is | rfl)
    (case b3 => first | k_is | rfl)
    (case o3 => first | k_is | rfl)
    (case b4 => first | k_is | rfl)
    (case o4 => first | k_is | rfl)
    (case b5 => first | k_is | rfl)
    (case o5 => first | k_is | rfl)
    (case b6 => first | k_is | rfl)
    (case o6 => first | k_is | rfl)
    (case b7 => first | k_is | rfl)
    (case o7 => first | k_is | rfl)
    (case b8 => first | k_is | rfl)
    (case o8 => first | k_is | rfl)
    (case b9 => first | k_is | rfl)
    (case o9 => first | k_is | rfl)
    (case a1 => k_is)
    (case l1 => k_is)
    (case c1 => k_is)
    (case k1 => k_is)
    (case a2 => k_is)
    (case l2 => k_is)
    (case c2 => k_is)
    (case k2 => k_is)
    (case a3 => k_is)
    (case l3 => k_is)
    (case c3 => k_is)
    (case k3 => k_is)
    (case a4 => k_is)
    (case l4 => k_is)
    (case c4 => k_is)
    (case k4 => k_is)
    (case a5 => k_is)
    (case l5 => k_is)
    (case c5 => k_is)
    (case k5 => k_is)
    (case a6 => k_is)
    (case l6 => k_is)
    (case c6 => k_is)
    (case k6 => k_is)
    (case a7 => k_is)
    (case l7 => k_is)
    (case c7 => k_is)
    (case k7 => k_is)
    (case a8 => k_is)
    (case l8 => k_is)
    (case c8 => k_is)
    (case k8 => k_is)
    (case a9 => k_is)
    (case l9 => k_is)
    (case c9 => k_is)
    (case k9 => k_is)
    (case a10 => k_is)
    (case l10 => k_is)
    (case c10 => k_is)
    (case k10 => k_is)
    (case a11 => k_is)
    (case l11 => k_is)
    (case c11 => k_is)
    (case k11 => k_is)
    (case a12 => k_is)
    (case l12 => k_is)
    (case c12 => k_is)
    (case k12 => k_is)
    (case a13 => k_is)
    (case l13 => k_is)
    (case c13 => k_is)
    (case k13 => k_is)
    (case a14 => k_is)
    (case l14 => k_is)
    (case c14 => k_is)
    (case k14 => k_is)
    (case a15 => k_is)
    (case l15 => k_is)
    (case c15 => k_is)
    (case k15 => k_is)
    (case a16 => k_is)
    (case l16 => k_is)
    (case c16 => k_is)
    (case k16 => k_is)
    (case a17 => k_is)
    (case l17 => k_is)
    (case c17 => k_is)
    (case k17 => k_is)
    (case a18 => k_is)
    (case l18 => k_is)
    (case c18 => k_is)
    (case k18 => k_is)
    (case a19 => k_is)
    (case l19 => k_is)
    (case c19 => k_is)
    (case k19 => k_is)
    (case a20 => k_is)
    (case l20 => k_is)
    (case c20 => k_is)
    (case k20 => k_is)
    (case a21 => k_is)
    (case l21 => k_is)
    (case c21 => k_is)
    (case k21 => k_is)
    (case a22 => k_is)
    (case l22 => k_is)
    (case c22 => k_is)
    (case k22 => k_is)
    (case a23 => k_is)
    (case l23 => k_is)
    (case c23 => k_is)
    (case k23 => k_is)
    (case a24 => k_is)
    (case l24 => k_is)
    (case c24 => k_is)
    (case k24 => k_is)
    (case a25 => k_is)
    (case l25 => k_is)
    (case c25 => k_is)
    (case k25 => k_is)
    (case a26 => k_is)
    (case l26 => k_is)
    (case c26 => k_is)
    (case k26 => k_is)
    (case a27 => k_is)
    (case l27 => k_is)
    (case c27 => k_is)
    (case k27 => k_is)
    (case a28 => k_is)
    (case l28 => k_is)
    (case c28 => k_is)
    (case k28 => k_is)
    (case a29 => k_is)
    (case l29 => k_is)
    (case c29 => k_is)
    (case k29 => k_is)
    (case a30 => k_is)
    (case l30 => k_is)
    (case c30 => k_is)
    (case k30 => k_is)
    (case a31 => k_is)
    (case l31 => k_is)
    (case c31 => k_is)
    (case k31 => k_is)
    (case a32 => k_is)
    (case l32 => k_is)
    (case c32 => k_is)
    (case k32 => k_is)
    (case a33 => k_is)
    (case l33 => k_is)
    (case c33 => k_is)
    (case k33 => k_is)
    (case a34 => k_is)
    (case l34 => k_is)
    (case c34 => k_is)
    (case k34 => k_is)
    (case a35 => k_is)
    (case l35 => k_is)
    (case c35 => k_is)
    (case k35 => k_is)
    (case a36 => k_is)
    (case l36 => k_is)
    (case c36 => k_is)
    (case k36 => k_is)
    (case a37 => k_is)
    (case l37 => k_is)
    (case c37 => k_is)
    (case k37 => k_is)
    (case a38 => k_is)
    (case l38 => k_is)
    (case c38 => k_is)
    (case k38 => k_is)
    (case a39 => k_is)
    (case l39 => k_is)
    (case c39 => k_is)
    (case k39 => k_is)
    (case a40 => k_is)
    (case l40 => k_is)
    (case c40 => k_is)
    (case k40 => k_is)
    (case a41 => k_is)
    (case l41 => k_is)
    (case c41 => k_is)
    (case k41 => k_is)
    (case m1 => k_is)
    (case m2 => k_is)
    (case m3 => k_is)
    (case m4 => k_is)
    (case m5 => k_is)
    (case m6 => k_is)
    (case m7 => k_is)
    (case ms1 => k_is)
    (case ms2 => k_is)
    (case wN => k_is)
    (case qN => k_is)
    (case wR => k_is)
    (case qR => k_is)
    (case wL => k_is)
    (case qL => k_is)
    (case z1 => k_is)
    (case z2 => k_is)
    (case z3 => k_is)
    (case z4 => k_is)
    (case z5 => k_is)
    (case z6 => k_is)
    (case z7 => k_is)
    (case z8 => k_is)
    (case z9 => k_is)
    (case z10 => k_is)
    (case z11 => k_is)
    (case z12 => k_is)
    (case z13 => k_is)
    (case z14 => k_is)
    (case z15 => k_is)
    (case z16 => k_is)
