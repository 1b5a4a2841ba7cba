import PyProof.Rows.All
import Wide.All
import OpenK.AllK
import Wide.FinOn
import HandS.ForMost
import HandS.ForExc
import HandS.IsInst
import HandS.Deep
import HandS.StrMore
import HandS.SetKeys
import HandS.TupAny
import HandS.Style
import HandS.Evl
import HandS.Walk
import HandS.Wide
import KE.GoesMore
import KE.GoesEnum
import HandS.Strs
import HandS.Sort
import HandS.TupLe
import HandS.TryOnly
import HandS.ExcOwn
import HandS.WordsExc
import PyProof.ExcBaseAll.ValueError
import PySem.Challenge.RW_watchedrun_k41_hooks_known
set_option Elab.async false
set_option linter.all false
set_option maxRecDepth 100000
set_option maxHeartbeats 4000000
namespace Wr
open PySem PySem.Spec PyProof.Rows L2 Evl

/-! ### heaps with some addresses hidden -/
def hid (b : List Addr) (H : Hp) : Hp := fun a => if a ∈ b then none else H a
def Kn (b : List Addr) (H : Hp) : Prop := ∀ a ∈ b, H a ≠ none
theorem hid_ne {b : List Addr} {H : Hp} {a : Addr} (h : a ∉ b) : hid b H a = H a := if_neg h
theorem hid_some {b : List Addr} {H : Hp} {a : Addr} {o : HO} (h : hid b H a = some o) : a ∉ b ∧ H a = some o := by
  unfold hid at h
  by_cases e : a ∈ b
  · rw [if_pos e] at h
    cases h
  · rw [if_neg e] at h
    exact ⟨e, h⟩
theorem hid_le {b : List Addr} {H : Hp} : Ex (hid b H) H := fun _ _ h => (hid_some h).2
theorem hid_ex {b : List Addr} {H H' : Hp} (e : Ex H H') : Ex (hid b H) (hid b H') := fun a o h => by
  obtain ⟨h1, h2⟩ := hid_some h
  rw [hid_ne h1]
  exact e a o h2
theorem Kn.up {b : List Addr} {H H' : Hp} (k : Kn b H) (e : Ex H H') : Kn b H' := fun a ha h => by
  have := k a ha
  cases q : H a with
  | none => exact this q
  | some o =>
    rw [e a o q] at h
    cases h
theorem Kn.new {b : List Addr} {H : Hp} (k : Kn b H) {p : Addr} (hp : H p = none) : p ∉ b := fun e => k p e hp

/-! ### data whose tuples are known to have no dict of their own -/
def TN (K : PySem.W.Frag) (H : Hp) (a : Addr) : Prop := (∃ o u, H a = some (.frz o u) ∧ o.dict = none) ∨ ∃ o, K.lookup a = some o ∧ o.cls = .type "tuple" ∧ o.dict = none
theorem TN.ex {K : PySem.W.Frag} {H H' : Hp} {a : Addr} (e : Ex H H') (h : TN K H a) : TN K H' a := by
  rcases h with ⟨o, u, h1, h2⟩ | h
  · exact .inl ⟨o, u, e _ _ h1, h2⟩
  · exact .inr h
mutual
inductive Dd (K : PySem.W.Frag) (H : Hp) : V → PyData → Prop
  | non : Dd K H .non .none
  | bl (b : Bool) : Dd K H (.bl b) (.bool b)
  | int (i : Int) : Dd K H (.int i) (.int i)
  | str (x : Str) : Dd K H (.str x) (.str x)
  | lst {a : Addr} {xs : List V} {ds : List PyData} : SqL K H a xs → DdAll K H xs ds → Dd K H (.ref a) (.list ds)
  | tup {a : Addr} {xs : List V} {ds : List PyData} : SqT K H a xs → TN K H a → DdAll K H xs ds → Dd K H (.ref a) (.tuple ds)
inductive DdAll (K : PySem.W.Frag) (H : Hp) : List V → List PyData → Prop
  | nil : DdAll K H [] []
  | cons {v : V} {vs : List V} {d : PyData} {ds : List PyData} : Dd K H v d → DdAll K H vs ds → DdAll K H (v :: vs) (d :: ds)
end
mutual
theorem dd_dp {K : PySem.W.Frag} {H : Hp} : ∀ (d : PyData) (v : V), Dd K H v d → Dp K H v d
  | .none, _, h => by cases h; exact .non
  | .bool b, _, h => by cases h; exact .bl b
  | .int i, _, h => by cases h; exact .int i
  | .str x, _, h => by cases h; exact .str x
  | .list ds, _, h => by
    cases h with
    | lst hs ha => exact .lst hs (dds_dp ds _ ha)
  | .tuple ds, _, h => by
    cases h with
    | tup hs _ ha => exact .tup hs (dds_dp ds _ ha)
  | .dict _, _, h => by cases h
theorem dds_dp {K : PySem.W.Frag} {H : Hp} : ∀ (ds : List PyData) (vs : List V), DdAll K H vs ds → DpAll K H vs ds
  | [], _, h => by cases h; exact .nil
  | d :: ds, _, h => by
    cases h with
    | cons h1 h2 => exact .cons (dd_dp d _ h1) (dds_dp ds _ h2)
end
/-! ### data stay where the heap grows -/
mutual
theorem dp_ex {K : PySem.W.Frag} {H H' : Hp} (e : Ex H H') : ∀ (d : PyData) (v : V), Dd K H v d → Dd K H' v d
  | .none, _, h => by cases h; exact .non
  | .bool b, _, h => by cases h; exact .bl b
  | .int i, _, h => by cases h; exact .int i
  | .str x, _, h => by cases h; exact .str x
  | .list ds, _, h => by
    cases h with
    | lst hs ha => exact .lst (ex_l e hs) (dps_ex e ds _ ha)
  | .tuple ds, _, h => by
    cases h with
    | tup hs hn ha => exact .tup (ex_t e hs) (hn.ex e) (dps_ex e ds _ ha)
  | .dict _, _, h => by cases h
theorem dps_ex {K : PySem.W.Frag} {H H' : Hp} (e : Ex H H') : ∀ (ds : List PyData) (vs : List V), DdAll K H vs ds → DdAll K H' vs ds
  | [], _, h => by cases h; exact .nil
  | d :: ds, _, h => by
    cases h with
    | cons h1 h2 => exact .cons (dp_ex e d _ h1) (dps_ex e ds _ h2)
end
abbrev Dq (K : PySem.W.Frag) (b : List Addr) (H : Hp) (v : V) (d : PyData) : Prop := Dd K (hid b H) v d
abbrev DqAll (K : PySem.W.Frag) (b : List Addr) (H : Hp) (vs : List V) (ds : List PyData) : Prop := DdAll K (hid b H) vs ds
section
variable {K : PySem.W.Frag} {b : List Addr} {H H' H1 H2 : Hp} {v : V} {vs : List V} {d e : PyData} {ds : List PyData}
theorem Dq.up (h : Dq K b H v d) (e : Ex H H') : Dq K b H' v d := dp_ex (hid_ex e) d v h
theorem DqAll.up (h : DqAll K b H vs ds) (e : Ex H H') : DqAll K b H' vs ds := dps_ex (hid_ex e) ds vs h
theorem Dq.dd (h : Dq K b H v d) : Dd K H v d := dp_ex hid_le d v h
theorem Dq.dp (h : Dq K b H v d) : Dp K H v d := dd_dp d v h.dd
theorem DqAll.dd (h : DqAll K b H vs ds) : DdAll K H vs ds := dps_ex hid_le ds vs h
theorem dps_len : ∀ {vs : List V} {ds : List PyData} {H : Hp}, DdAll K H vs ds → vs.length = ds.length
  | _, [], _, h => by cases h; rfl
  | _, d :: ds, _, h => by
    cases h with
    | cons h1 h2 => rw [List.length_cons, List.length_cons, dps_len h2]
theorem dps_get : ∀ {vs : List V} {ds : List PyData} {H : Hp} {i : Nat} {d : PyData}, DdAll K H vs ds → ds[i]? = some d → ∃ v, vs[i]? = some v ∧ Dd K H v d
  | _, [], _, i, d, h, e => by simp at e
  | _, x :: ds, _, 0, d, h, e => by
    cases h with
    | cons h1 h2 =>
      have e1 : x = d := Option.some.inj e
      subst e1
      exact ⟨_, rfl, h1⟩
  | _, x :: ds, _, i + 1, d, h, e => by
    cases h with
    | cons h1 h2 =>
      obtain ⟨v, q1, q2⟩ := dps_get h2 (i := i) e
      exact ⟨v, q1, q2⟩
theorem dps_at : ∀ {vs : List V} {ds : List PyData} {H : Hp} {i : Nat} {v : V}, DdAll K H vs ds → vs[i]? = some v → ∃ d, ds[i]? = some d ∧ Dd K H v d
  | _, [], _, i, v, h, e => by cases h; simp at e
  | _, x :: ds, _, 0, v, h, e => by
    cases h with
    | cons h1 h2 =>
      have e1 := Option.some.inj e
      subst e1
      exact ⟨_, rfl, h1⟩
  | _, x :: ds, _, i + 1, v, h, e => by
    cases h with
    | cons h1 h2 =>
      obtain ⟨d, q1, q2⟩ := dps_at h2 (i := i) e
      exact ⟨d, q1, q2⟩
theorem dps_app : ∀ {vs ws : List V} {ds es : List PyData} {H : Hp}, DdAll K H vs ds → DdAll K H ws es → DdAll K H (vs ++ ws) (ds ++ es)
  | _, _, [], _, _, h, h' => by cases h; exact h'
  | _, _, x :: ds, _, _, h, h' => by
    cases h with
    | cons h1 h2 => exact .cons h1 (dps_app h2 h')
theorem dps_drop : ∀ {vs : List V} {ds : List PyData} {H : Hp} (n : Nat), DdAll K H vs ds → DdAll K H (vs.drop n) (ds.drop n)
  | _, _, _, 0, h => h
  | _, [], _, n + 1, h => by cases h; exact .nil
  | _, x :: ds, _, n + 1, h => by
    cases h with
    | cons h1 h2 => exact dps_drop n h2
theorem dps_take : ∀ {vs : List V} {ds : List PyData} {H : Hp} (n : Nat), DdAll K H vs ds → DdAll K H (vs.take n) (ds.take n)
  | _, _, _, 0, h => .nil
  | _, [], _, n + 1, h => by cases h; exact .nil
  | _, x :: ds, _, n + 1, h => by
    cases h with
    | cons h1 h2 => exact .cons h1 (dps_take n h2)
/-- texts are texts -/
theorem dps_strs : ∀ {vs : List V} {xs : List Str} {H : Hp}, DdAll K H vs (xs.map PyData.str) → vs = xs.map V.str
  | _, [], _, h => by cases h; rfl
  | _, x :: xs, _, h => by
    cases h with
    | cons h1 h2 =>
      cases h1
      rw [dps_strs h2]
      rfl
theorem strs_dps : ∀ (xs : List Str) {H : Hp}, DdAll K H (xs.map V.str) (xs.map PyData.str)
  | [], _ => .nil
  | x :: xs, _ => .cons (.str x) (strs_dps xs)
theorem dps_bls : ∀ {vs : List V} {xs : List Bool} {H : Hp}, DdAll K H vs (xs.map PyData.bool) → vs = xs.map V.bl
  | _, [], _, h => by cases h; rfl
  | _, x :: xs, _, h => by
    cases h with
    | cons h1 h2 =>
      cases h1
      rw [dps_bls h2]
      rfl
end
/-- a new object at p keeps what is hidden hidden -/
theorem hid_new {b : List Addr} {H : Hp} {p : Addr} {o : HO} (h : p ∉ b) : hid b (upd H p o) p = some o := by
  rw [hid_ne h, upd_same]
end Wr

set_option Elab.async false
set_option linter.all false
set_option maxRecDepth 100000
set_option maxHeartbeats 4000000
namespace Wr
open PySem PySem.Spec PyProof.Rows L2 Evl

/-! ### what evaluates to which datum -/
section
variable (K : PySem.W.Frag) (b : List Addr)
def ED (te : TE) (σ : L2.St) (H : Hp) (d : PyData) : Prop := ∀ H1, Ex H H1 → ∀ Q : VK, (∀ v H2, Ex H1 H2 → Dq K b H2 v d → Q v H2) → te σ H1 Q
def EA (ta : TA) (σ : L2.St) (H : Hp) (ds : List PyData) : Prop := ∀ H1, Ex H H1 → ∀ Q : List V → Hp → Prop, (∀ vs H2, Ex H1 H2 → DqAll K b H2 vs ds → Q vs H2) → ta σ H1 Q
def SR (ts : TS) (σ : L2.St) (H : Hp) (d : PyData) : Prop := ∀ H1, Ex H H1 → ∀ D : Ends, (∀ v H2, Ex H1 H2 → Dq K b H2 v d → D.rt v H2) → ts D σ H1
end
/-- a pure def: data in, a datum out, all that stood stands -/
def spP (K : PySem.W.Frag) (pre : List PyData → Prop) (f : List PyData → PyData) : Sp := fun vs H Q _ =>
  ∃ b ds, Kn b H ∧ DqAll K b H vs ds ∧ pre ds ∧ ∀ v H', Ex H H' → Dq K b H' v (f ds) → Q v H'
section
variable {K : PySem.W.Frag} {b : List Addr} {σ : L2.St} {H H' : Hp} {ta tb tc te : TE} {t : TA} {tt : TT} {ts t1 t2 : TS} {d e : PyData} {ds : List PyData} {v : V}
theorem ED.mono (x : Ex H H') (h : ED K b te σ H d) : ED K b te σ H' d := fun H1 a Q q => h H1 (x.trans a) Q q
theorem EA.mono (x : Ex H H') (h : EA K b t σ H ds) : EA K b t σ H' ds := fun H1 a Q q => h H1 (x.trans a) Q q
theorem SR.mono (x : Ex H H') (h : SR K b ts σ H d) : SR K b ts σ H' d := fun H1 a Q q => h H1 (x.trans a) Q q
theorem ED.to (h : ED K b te σ H d) (x : d = e) : ED K b te σ H e := x ▸ h
theorem SR.to (h : SR K b ts σ H d) (x : d = e) : SR K b ts σ H e := x ▸ h
theorem ed_var {i : Nat} (h : σ[i]? = some (some v)) (hd : Dq K b H v d) : ED K b (tVar i) σ H d := fun H1 x _ q => ⟨v, h, q v H1 (Ex.refl H1) (hd.up x)⟩
theorem ed_c (hd : Dq K b H v d) : ED K b (tC v) σ H d := fun H1 x _ q => q v H1 (Ex.refl H1) (hd.up x)
theorem ed_int {i : Int} : ED K b (tC (.int i)) σ H (.int i) := ed_c (.int i)
theorem ed_str {x : Str} : ED K b (tC (.str x)) σ H (.str x) := ed_c (.str x)
theorem ed_bl {x : Bool} : ED K b (tC (.bl x)) σ H (.bool x) := ed_c (.bl x)
theorem ed_non : ED K b (tC .non) σ H .none := ed_c .non
/-- two operands, then an operation on data -/
theorem ed_op {r : R2} {z : PyData} (ha : ED K b ta σ H d) (hb : ED K b tb σ H e) (hr : ∀ H1 x y (Q : VK), Ex H H1 → Dq K b H1 x d → Dq K b H1 y e → (∀ v H2, Ex H1 H2 → Dq K b H2 v z → Q v H2) → r x y H1 Q) : ED K b (tOp r ta tb) σ H z :=
  fun H1 x1 Q q => ha H1 x1 _ fun x H2 x2 hx => hb H2 (x1.trans x2) _ fun y H3 x3 hy =>
    hr H3 x y Q ((x1.trans x2).trans x3) (hx.up x3) hy fun v H4 x4 hv => q v H4 ((x2.trans x3).trans x4) hv
theorem ed_eq (ha : ED K b ta σ H d) (hb : ED K b tb σ H e) (sd : SeqAt.shaped d = true) (se : SeqAt.shaped e = true) : ED K b (tOp (rEqD K) ta tb) σ H (.bool (PyData.eqv d e)) :=
  ed_op ha hb fun H1 x y Q _ hx hy q => ⟨d, e, hx.dp, hy.dp, sd, se, q _ H1 (Ex.refl H1) (.bl _)⟩
theorem ed_ne (ha : ED K b ta σ H d) (hb : ED K b tb σ H e) (sd : SeqAt.shaped d = true) (se : SeqAt.shaped e = true) : ED K b (tOp (rNeD K) ta tb) σ H (.bool (!PyData.eqv d e)) :=
  ed_op ha hb fun H1 x y Q _ hx hy q => ⟨d, e, hx.dp, hy.dp, sd, se, q _ H1 (Ex.refl H1) (.bl _)⟩
theorem dq_int {i : Int} (h : Dq K b H v (.int i)) : v = .int i := by cases h; rfl
theorem dq_bl {i : Bool} (h : Dq K b H v (.bool i)) : v = .bl i := by cases h; rfl
theorem dq_str {i : Str} (h : Dq K b H v (.str i)) : v = .str i := by cases h; rfl
theorem ed_I0 {g : Int → Int → V} {i j : Int} {z : PyData} (ha : ED K b ta σ H (.int i)) (hb : ED K b tb σ H (.int j)) (hz : ∀ H', Dq K b H' (g i j) z) : ED K b (tOp (rI0 g) ta tb) σ H z :=
  ed_op ha hb fun H1 x y Q _ hx hy q => ⟨i, j, dq_int hx, dq_int hy, q _ H1 (Ex.refl H1) (hz _)⟩
theorem ed_I {C : Int → Int → Prop} {g : Int → Int → V} {i j : Int} {z : PyData} (ha : ED K b ta σ H (.int i)) (hb : ED K b tb σ H (.int j)) (hc : C i j) (hz : ∀ H', Dq K b H' (g i j) z) : ED K b (tOp (rI C g) ta tb) σ H z :=
  ed_op ha hb fun H1 x y Q _ hx hy q => ⟨i, j, dq_int hx, dq_int hy, hc, q _ H1 (Ex.refl H1) (hz _)⟩
theorem ed_lt {i j : Int} (ha : ED K b ta σ H (.int i)) (hb : ED K b tb σ H (.int j)) : ED K b (tOp (rI0 fun i j => .bl (decide (i < j))) ta tb) σ H (.bool (decide (i < j))) := ed_I0 ha hb fun _ => .bl _
theorem ed_le {i j : Int} (ha : ED K b ta σ H (.int i)) (hb : ED K b tb σ H (.int j)) : ED K b (tOp (rI0 fun i j => .bl (decide (i ≤ j))) ta tb) σ H (.bool (decide (i ≤ j))) := ed_I0 ha hb fun _ => .bl _
theorem ed_gt {i j : Int} (ha : ED K b ta σ H (.int i)) (hb : ED K b tb σ H (.int j)) : ED K b (tOp (rI0 fun i j => .bl (decide (j < i))) ta tb) σ H (.bool (decide (j < i))) := ed_I0 ha hb fun _ => .bl _
theorem ed_ge {i j : Int} (ha : ED K b ta σ H (.int i)) (hb : ED K b tb σ H (.int j)) : ED K b (tOp (rI0 fun i j => .bl (decide (j ≤ i))) ta tb) σ H (.bool (decide (j ≤ i))) := ed_I0 ha hb fun _ => .bl _
theorem ed_add {i j : Int} (ha : ED K b ta σ H (.int i)) (hb : ED K b tb σ H (.int j)) : ED K b (tOp (rI0 fun i j => .int (i + j)) ta tb) σ H (.int (i + j)) := ed_I0 ha hb fun _ => .int _
theorem ed_sub {i j : Int} (ha : ED K b ta σ H (.int i)) (hb : ED K b tb σ H (.int j)) : ED K b (tOp (rI0 fun i j => .int (i - j)) ta tb) σ H (.int (i - j)) := ed_I0 ha hb fun _ => .int _
theorem ed_neg {i : Int} (ha : ED K b ta σ H (.int i)) : ED K b (tUn (rU fun i => .int (-i)) ta) σ H (.int (-i)) := fun H1 x1 Q q =>
  ha H1 x1 _ fun x H2 x2 hx => ⟨i, dq_int hx, q _ H2 x2 (.int _)⟩
/-- a chain of two comparisons of ints -/
theorem ed_chain {g g' : Int → Int → Bool} {i j k : Int} (ha : ED K b ta σ H (.int i)) (hb : ED K b tb σ H (.int j)) (hc : ED K b tc σ H (.int k)) :
    ED K b (tChain (rI0 fun i j => .bl (g i j)) (rI0 fun i j => .bl (g' i j)) ta tb tc) σ H (.bool (g i j && g' j k)) := fun H1 x1 Q q =>
  ha H1 x1 _ fun x H2 x2 hx => hb H2 (x1.trans x2) _ fun y H3 x3 hy => ⟨i, j, dq_int hx, dq_int hy, g i j, rfl, by
    cases hg : g i j with
    | false =>
      rw [if_neg Bool.false_ne_true]
      rw [hg] at q
      exact q _ H3 (x2.trans x3) (.bl _)
    | true =>
      rw [if_pos rfl]
      rw [hg] at q
      exact hc H3 ((x1.trans x2).trans x3) _ fun z H4 x4 hz => ⟨j, k, dq_int hy, dq_int hz, q _ H4 ((x2.trans x3).trans x4) (.bl _)⟩⟩
theorem ed_and {c : Bool} (ha : ED K b ta σ H (.bool c)) (hb : c = true → ED K b tb σ H d) : ED K b (tAndV ta tb) σ H (if c = true then d else .bool false) := fun H1 x1 Q q =>
  ha H1 x1 _ fun x H2 x2 hx => ⟨c, dq_bl hx, by
    cases c with
    | false =>
      rw [if_neg Bool.false_ne_true]
      rw [if_neg Bool.false_ne_true] at q
      exact q _ H2 x2 (.bl _)
    | true =>
      rw [if_pos rfl]
      rw [if_pos rfl] at q
      exact hb rfl H2 (x1.trans x2) _ fun z H4 x4 hz => q _ H4 (x2.trans x4) hz⟩
theorem ed_or {c : Bool} (ha : ED K b ta σ H (.bool c)) (hb : c = false → ED K b tb σ H d) : ED K b (tOrV ta tb) σ H (if c = true then .bool true else d) := fun H1 x1 Q q =>
  ha H1 x1 _ fun x H2 x2 hx => ⟨c, dq_bl hx, by
    cases c with
    | true =>
      rw [if_pos rfl]
      rw [if_pos rfl] at q
      exact q _ H2 x2 (.bl _)
    | false =>
      rw [if_neg Bool.false_ne_true]
      rw [if_neg Bool.false_ne_true] at q
      exact hb rfl H2 (x1.trans x2) _ fun z H4 x4 hz => q _ H4 (x2.trans x4) hz⟩
/-- and, or of truths -/
theorem ed_andB {c k : Bool} (ha : ED K b ta σ H (.bool c)) (hb : c = true → ED K b tb σ H (.bool k)) : ED K b (tAndV ta tb) σ H (.bool (c && k)) := (ed_and ha hb).to (by cases c <;> rfl)
theorem ed_orB {c k : Bool} (ha : ED K b ta σ H (.bool c)) (hb : c = false → ED K b tb σ H (.bool k)) : ED K b (tOrV ta tb) σ H (.bool (c || k)) := (ed_or ha hb).to (by cases c <;> rfl)
theorem ed_not {c : Bool} (ha : ED K b ta σ H (.bool c)) : ED K b (tNotV ta) σ H (.bool (!c)) := fun H1 x1 Q q =>
  ha H1 x1 _ fun x H2 x2 hx => ⟨c, dq_bl hx, q _ H2 x2 (.bl _)⟩
theorem et_t {c : Bool} (h : ED K b te σ H (.bool c)) : EvT (tTest te) σ H c := fun H1 x Q q => h H1 x _ fun v H2 x2 hv => ⟨c, dq_bl hv, q H2 x2⟩
theorem et_b {c : Bool} (h : ED K b te σ H (.bool c)) : EvT (tB te) σ H c := fun H1 x Q q => h H1 x _ fun v H2 x2 hv => ⟨c, dq_bl hv, q H2 x2⟩
theorem ed_if {c : Bool} (hc : EvT tt σ H c) (ha : c = true → ED K b ta σ H d) (hb : c = false → ED K b tb σ H e) : ED K b (tIf tt ta tb) σ H (if c = true then d else e) := fun H1 x1 Q q =>
  hc H1 x1 _ fun H2 x2 => by
    cases c with
    | true =>
      rw [if_pos rfl]
      rw [if_pos rfl] at q
      exact ha rfl H2 (x1.trans x2) _ fun z H4 x4 hz => q _ H4 (x2.trans x4) hz
    | false =>
      rw [if_neg Bool.false_ne_true]
      rw [if_neg Bool.false_ne_true] at q
      exact hb rfl H2 (x1.trans x2) _ fun z H4 x4 hz => q _ H4 (x2.trans x4) hz
/-! ### arguments, calls -/
theorem ea_nil : EA K b tNil σ H [] := fun H1 x Q q => q [] H1 (Ex.refl H1) .nil
theorem ea_cons (ha : ED K b ta σ H d) (hr : EA K b t σ H ds) : EA K b (tCons ta t) σ H (d :: ds) := fun H1 x1 Q q =>
  ha H1 x1 _ fun x H2 x2 hx => hr H2 (x1.trans x2) _ fun xs H3 x3 hxs => q _ H3 (x2.trans x3) (.cons (hx.up x3) hxs)
theorem ed_call {pre : List PyData → Prop} {f : List PyData → PyData} {E : XK} (kn : Kn b H) (ha : EA K b t σ H ds) (hp : pre ds) : ED K b (tCall (spP K pre f) [] E t) σ H (f ds) := fun H1 x1 Q q =>
  ha H1 x1 _ fun vs H2 x2 hvs => ⟨b, ds, kn.up (x1.trans x2), by rw [List.append_nil]; exact hvs, hp, fun v H3 x3 hv => q v H3 (x2.trans x3) hv⟩
/-! ### blocks -/
theorem sr_ret (h : ED K b te σ H d) : SR K b (tRet te) σ H d := fun H1 x D q => h H1 x _ fun v H2 x2 hv => q v H2 x2 hv
theorem sr_if {c : Bool} (hc : EvT tt σ H c) (h1 : c = true → SR K b t1 σ H d) (h2 : c = false → SR K b t2 σ H e) : SR K b (tSeq (tIfS tt t1 tNext) t2) σ H (if c = true then d else e) := fun H1 x1 D q =>
  hc H1 x1 _ fun H2 x2 => by
    cases c with
    | true =>
      rw [if_pos rfl]
      rw [if_pos rfl] at q
      exact h1 rfl H2 (x1.trans x2) _ fun z H4 x4 hz => q _ H4 (x2.trans x4) hz
    | false =>
      rw [if_neg Bool.false_ne_true]
      rw [if_neg Bool.false_ne_true] at q
      exact h2 rfl H2 (x1.trans x2) _ fun z H4 x4 hz => q _ H4 (x2.trans x4) hz
theorem sr_set {i : Nat} (h : ED K b te σ H e) (k : ∀ v H', Ex H H' → Dq K b H' v e → SR K b ts (σ.set i (some v)) H' d) : SR K b (tSeq (tAsg te (gName i)) ts) σ H d := fun H1 x1 D q =>
  h H1 x1 _ fun v H2 x2 hv => k v H2 (x1.trans x2) hv H2 (Ex.refl H2) D fun z H4 x4 hz => q _ H4 (x2.trans x4) hz
/-- the def's own end -/
theorem SR.fin {D : Ends} (h : SR K b ts σ H d) (q : ∀ v H', Ex H H' → Dq K b H' v d → D.rt v H') : ts D σ H := h H (Ex.refl H) D q
end
/-! ### kinds -/
def dTy : PyData → String
  | .none => "NoneType"
  | .bool _ => "bool"
  | .int _ => "int"
  | .str _ => "str"
  | .list _ => "list"
  | .tuple _ => "tuple"
  | .dict _ => "dict"
def tyIs (t T : String) : Bool := t == T || (t == "bool" && T == "int")
def isD (T : String) (d : PyData) : Bool := tyIs (dTy d) T
theorem dp_ty {K : PySem.W.Frag} {H : Hp} {v : V} {d : PyData} (h : Dp K H v d) : TyX K H v (.type (dTy d)) := by
  cases h with
  | non => exact .base .non
  | bl b => exact .base (.bl b)
  | int i => exact .base (.int i)
  | str x => exact .base (.str x)
  | lst hs _ =>
    rcases hs with (h | ⟨o, h⟩) | ⟨o, _, _, h1, h2, _⟩
    · exact .base (.lst h)
    · exact .base (.frz h)
    · exact .kList h1 h2
  | tup hs _ =>
    rcases hs with (h | ⟨o, h⟩) | ⟨o, _, _, h1, h2, _⟩
    · exact .base (.tup h)
    · exact .fTuple h
    · exact .kTuple h1 h2
def KindT (T : String) : Prop := T = "int" ∨ T = "bool" ∨ T = "str" ∨ T = "tuple" ∨ T = "list"
theorem kit_all : (["NoneType", "bool", "int", "str", "list", "tuple"].all fun t => ["int", "bool", "str", "tuple", "list"].all fun T => decide (kitB t T = some (tyIs t T))) = true := by decide +kernel
theorem kit_at {t T : String} (ht : t ∈ ["NoneType", "bool", "int", "str", "list", "tuple"]) (hT : T ∈ ["int", "bool", "str", "tuple", "list"]) : kitB t T = some (tyIs t T) :=
  of_decide_eq_true (List.all_eq_true.mp (List.all_eq_true.mp kit_all t ht) T hT)
theorem dp_kit {K : PySem.W.Frag} {H : Hp} {v : V} {d : PyData} (h : Dp K H v d) {T : String} (hT : KindT T) : PySem.W.kitOne K (.type (dTy d)) (.type T) = some (isD T d) := by
  refine kit_ty (kit_at ?_ ?_)
  · cases h <;> simp [dTy]
  · rcases hT with rfl | rfl | rfl | rfl | rfl <;> simp
section
variable {K : PySem.W.Frag} {b : List Addr} {σ : L2.St} {H H' : Hp} {ta tb : TE} {d e : PyData} {ds : List PyData} {v : V}
theorem ed_isi {T : String} (hT : KindT T) (ha : ED K b ta σ H d) : ED K b (tCB (rIsi K) (tCons ta (tCons (tC (.ty T)) tNil))) σ H (.bool (isD T d)) := fun H1 x1 Q q =>
  ha H1 x1 _ fun x H2 x2 hx => ⟨x, .ty T, .type (dTy d), .type T, isD T d, rfl, .ty T, dp_ty hx.dp, dp_kit hx.dp hT, q _ H2 x2 (.bl _)⟩
/-! ### len -/
def lenD : PyData → Nat
  | .str x => x.length
  | .list xs => xs.length
  | .tuple xs => xs.length
  | _ => 0
def rLen (K : PySem.W.Frag) : List V → Hp → VK → Prop := fun xs H Q => ∃ x n, xs = [x] ∧ LenV K x H n ∧ Q (.int n) H
theorem call_lenD1 {X : Cx} : CallR X (.builtin "len") (rLen X.K) := call_len
theorem ed_len (ha : ED K b ta σ H d) (hk : isD "str" d = true ∨ isD "list" d = true ∨ isD "tuple" d = true) (hs : ∀ x, d = .str x → x.length ≤ sizeLine) : ED K b (tCB (rLen K) (tCons ta tNil)) σ H (.int (lenD d)) := fun H1 x1 Q q =>
  ha H1 x1 _ fun x H2 x2 hx => by
    refine ⟨x, lenD d, rfl, ?_, q _ H2 x2 (.int _)⟩
    have hx' := hx.dd
    cases hx' with
    | str y => exact ⟨hs y rfl, rfl⟩
    | lst h1 h2 => exact Or.inl ⟨_, h1, (dps_len h2).symm⟩
    | tup h1 _ h2 => exact Or.inr ⟨_, h1, (dps_len h2).symm⟩
    | non => rcases hk with h | h | h <;> exact absurd h (by show ¬ tyIs "NoneType" _ = true; decide)
    | bl c => rcases hk with h | h | h <;> exact absurd h (by show ¬ tyIs "bool" _ = true; decide)
    | int c => rcases hk with h | h | h <;> exact absurd h (by show ¬ tyIs "int" _ = true; decide)
/-! ### items -/
theorem dps_atI {H : Hp} {vs : List V} {ds : List PyData} {i : Int} {d : PyData} (h : DdAll K H vs ds) (hi : atI ds i = some d) : ∃ v, atI vs i = some v ∧ Dd K H v d := by
  unfold atI at hi ⊢
  rw [dps_len h]
  cases hj : ixN ds.length i with
  | none => rw [hj] at hi; cases hi
  | some j =>
    rw [hj] at hi
    exact dps_get h (i := j) hi
theorem ed_ixT {i : Int} {z : PyData} (ha : ED K b ta σ H (.tuple ds)) (hb : ED K b tb σ H (.int i)) (hi : atI ds i = some z) : ED K b (tOp (rIxT K) ta tb) σ H z :=
  ed_op ha hb fun H1 x y Q _ hx hy q => by
    cases hx with
    | tup h1 _ h2 =>
      obtain ⟨v, q1, q2⟩ := dps_atI h2 hi
      exact ⟨_, _, i, v, rfl, dq_int hy, ex_t hid_le h1, q1, q v H1 (Ex.refl H1) q2⟩
theorem ed_ixL {i : Int} {z : PyData} (ha : ED K b ta σ H (.list ds)) (hb : ED K b tb σ H (.int i)) (hi : atI ds i = some z) : ED K b (tOp (rIxL K) ta tb) σ H z :=
  ed_op ha hb fun H1 x y Q _ hx hy q => by
    cases hx with
    | lst h1 h2 =>
      obtain ⟨v, q1, q2⟩ := dps_atI h2 hi
      exact ⟨_, _, i, v, rfl, dq_int hy, ex_l hid_le h1, q1, q v H1 (Ex.refl H1) q2⟩
/-! ### in -/
def rInT (K : PySem.W.Frag) (neg : Bool) : R2 := fun x y H Q => ∃ d ds, Dp K H x d ∧ Dp K H y (.tuple ds) ∧ SeqAt.shaped d = true ∧ SeqAt.shaped (.tuple ds) = true ∧ Q (.bl (if neg = true then !ds.any (fun z => PyData.eqv z d) else ds.any fun z => PyData.eqv z d)) H
theorem op_inT {X : Cx} (hu : X.A.units + 65 < cLine) : OpR X (compareOp .In) (rInT X.K false) := by
  intro pins s σ H x y v u Q I rx ry ⟨d, ds, hd, he, sd, se, q⟩
  obtain ⟨as, r1⟩ := Dp.reads I d x v hd rx
  obtain ⟨bs, r2⟩ := Dp.reads I (.tuple ds) y u he ry
  exact SeqAt.in_tuple_reads r2 r1 (SeqAt.canLay_of_shaped se) (SeqAt.canLay_of_shaped sd) (room_in_shaped sd hu) ⟨.bl _, H, I, rfl, q⟩
theorem op_notInT {X : Cx} (hu : X.A.units + 65 < cLine) : OpR X (compareOp .NotIn) (rInT X.K true) := by
  intro pins s σ H x y v u Q I rx ry ⟨d, ds, hd, he, sd, se, q⟩
  obtain ⟨as, r1⟩ := Dp.reads I d x v hd rx
  obtain ⟨bs, r2⟩ := Dp.reads I (.tuple ds) y u he ry
  exact SeqAt.notIn_tuple_reads r2 r1 (SeqAt.canLay_of_shaped se) (SeqAt.canLay_of_shaped sd) (room_in_shaped sd hu) ⟨.bl _, H, I, rfl, q⟩
def inD (d : PyData) (ds : List PyData) : Bool := ds.any fun z => PyData.eqv z d
theorem ed_inT (ha : ED K b ta σ H d) (hb : ED K b tb σ H (.tuple ds)) (sd : SeqAt.shaped d = true) (se : SeqAt.shaped (.tuple ds) = true) : ED K b (tOp (rInT K false) ta tb) σ H (.bool (inD d ds)) :=
  ed_op ha hb fun H1 x y Q _ hx hy q => ⟨d, ds, hx.dp, hy.dp, sd, se, q _ H1 (Ex.refl H1) (.bl _)⟩
theorem ed_inL (ha : ED K b ta σ H d) (hb : ED K b tb σ H (.list ds)) (sd : SeqAt.shaped d = true) (se : SeqAt.shaped (.list ds) = true) : ED K b (tOp (rInD K) ta tb) σ H (.bool (inD d ds)) :=
  ed_op ha hb fun H1 x y Q _ hx hy q => ⟨d, ds, hx.dp, hy.dp, sd, se, q _ H1 (Ex.refl H1) (.bl _)⟩
theorem ed_ninL (ha : ED K b ta σ H d) (hb : ED K b tb σ H (.list ds)) (sd : SeqAt.shaped d = true) (se : SeqAt.shaped (.list ds) = true) : ED K b (tOp (rNotInD K) ta tb) σ H (.bool (!inD d ds)) :=
  ed_op ha hb fun H1 x y Q _ hx hy q => ⟨d, ds, hx.dp, hy.dp, sd, se, q _ H1 (Ex.refl H1) (.bl _)⟩
/-! ### new lists and tuples -/
theorem ed_lst {t : TA} (kn : Kn b H) (ha : EA K b t σ H ds) (hl : ds.length ≤ sizeLine) : ED K b (tLst t) σ H (.list ds) := fun H1 x1 Q q =>
  ha H1 x1 _ fun vs H2 x2 hvs => ⟨by rw [dps_len hvs]; exact hl, fun p hp => q _ _ (x2.trans (Ex.new hp))
    (.lst (.inl (.inl (hid_new ((kn.up (x1.trans x2)).new hp)))) (hvs.up (Ex.new hp)))⟩
/-- a tuple display, its object known -/
def tTupF (t : TA) : TE := fun σ H Q => t σ H fun xs H1 => xs.length ≤ sizeLine ∧ ∀ p o, H1 p = none → o.dict = none → Q (.ref p) (upd H1 p (.frz o (.tup xs)))
theorem pe_tupF {X : Cx} {es : List Expr} {t : TA} {pos : Pos} {x1} (h : PA X es t) : PE X (.Tuple es x1 pos) (tTupF t) := by
  refine ⟨fun pins s σ H Q I hq => ?_⟩
  refine wpAny_Tuple_spliced (thn (h.run pos pins s σ H _ I hq) fun us s1 ⟨xs, H1, I1, r, z, q⟩ => ⟨by rw [← r.length]; exact z, ?_⟩)
  have hf : H1 s1.heap.objs.size = none := I1.hok.fresh (Nat.le_refl _)
  refine ⟨.ref s1.heap.objs.size, upd H1 s1.heap.objs.size (.frz { cls := .type "tuple", data := .seq us.toArray } (.tup xs)),
    I1.laid (t' := s1.toks) (fun b u e => Heap.get?_push_of_some _ e) (Nat.le_refl _) ?_, rfl, q _ _ hf rfl⟩
  exact ⟨Heap.get?_push_size _ rfl, z, us, r, ⟨_, Heap.get?_push_size _ rfl, rfl, _, rfl⟩⟩
theorem ed_tup {t : TA} (kn : Kn b H) (ha : EA K b t σ H ds) (hl : ds.length ≤ sizeLine) : ED K b (tTupF t) σ H (.tuple ds) := fun H1 x1 Q q =>
  ha H1 x1 _ fun vs H2 x2 hvs => ⟨by rw [dps_len hvs]; exact hl, fun p o hp ho => by
    have e := hid_new (o := HO.frz o (.tup vs)) (H := H2) ((kn.up (x1.trans x2)).new hp)
    exact q _ _ (x2.trans (Ex.new hp)) (.tup (.inl (.inr ⟨_, e⟩)) (.inl ⟨_, _, e, ho⟩) (hvs.up (Ex.new hp)))⟩
/-! ### all([..]) -/
theorem ed_all {bs : List Bool} (ha : ED K b ta σ H (.list (bs.map PyData.bool))) : ED K b (tCB (rAll K) (tCons ta tNil)) σ H (.bool (bs.all id)) := fun H1 x1 Q q =>
  ha H1 x1 _ fun x H2 x2 hx => by
    have hx' := hx.dd
    cases hx' with
    | lst h1 h2 =>
      rw [dps_bls h2] at h1
      exact ⟨_, bs, rfl, h1, q _ H2 x2 (.bl _)⟩
end
end Wr

set_option Elab.async false
set_option linter.all false
set_option maxRecDepth 100000
set_option maxHeartbeats 4000000
namespace Wr
open PySem PySem.Spec PyProof.Rows L2 Evl

/-! ### enumerate(tuple) -/
theorem enum_new1 {v : Value} {o : Obj} {H : Heap → Prop} (B : Begins v o H) :
    Meets (Builtin.«enumerate.__new__» ⟨[.type "enumerate", v], []⟩) (fun _ R s => H s.heap ∧
      R (.ok (.ret (.ref (s.heap.push o).objs.size)))
        { s with heap := (s.heap.push o).push { cls := .type "enumerate", data := .fields #[.none, .bool false, .ref s.heap.objs.size, rawInt 0, .none, .none] } }) :=
  .of_wp fun prog w A R s h => by
    obtain ⟨hp, g, d, tk, os⟩ := s
    obtain ⟨h1, h⟩ := h
    have hsub := sub_enumerate
    have q1 : ∀ {A' : Around} {E : Value → Shared → Prop} {Q : Value → Shared → Prop}, Q (.ref hp.objs.size) ⟨hp.push o, g, d, tk, os⟩ →
        wpAny (model prog w) A' (pyIter v) Q E ⟨hp, g, d, tk, os⟩ := fun q => B.iter prog w _ _ ⟨hp, g, d, tk, os⟩ _ h1 q
    wp_walk using q1
    refine wpAny_stack_any fun st => wpAny_pure ?_
    split
    · rename_i c _ _ _ _ _
      cases (c == Value.type "enumerate") <;> (wp_walk using q1; exact ⟨_, rfl, h⟩)
    · wp_walk using q1
      exact ⟨_, rfl, h⟩
section
variable {prog : Program} {w : World} {A : Around} {E : Value → Shared → Prop} {s : Shared}
theorem enum_call1 {v : Value} {o : Obj} {H : Heap → Prop} {Q : Value → Shared → Prop} (B : Begins v o H) (h1 : H s.heap)
    (h : ∀ h', IsEnum h' (s.heap.objs.size + 1) s.heap.objs.size 0 .none → h'.get? s.heap.objs.size = some o →
      (∀ b o, s.heap.get? b = some o → h'.get? b = some o) → Q (.ref (s.heap.objs.size + 1)) { s with heap := h' }) :
    wpAny (model prog w) A (call (.type "enumerate") [v]) Q E s := by
  refine callType_new F.called_enumerate (by decide) (F.typeCall_enumerate_1 _) (F.newCall_enumerate_1 _) (fun obj => F.args_object_init_2 obj _)
    F.entry_enumerate_new (enum_new1 B) ⟨h1, ?_⟩
  have hz : (s.heap.push o).objs.size = s.heap.objs.size + 1 := Heap.size_push ..
  show _ ∧ _
  rw [hz]
  have he : IsEnum ((s.heap.push o).push { cls := .type "enumerate", data := .fields #[.none, .bool false, .ref s.heap.objs.size, rawInt 0, .none, .none] })
      (s.heap.objs.size + 1) s.heap.objs.size 0 .none := by
    have g := Heap.get?_push_size (s.heap.push o) (o := { cls := .type "enumerate", data := .fields #[.none, .bool false, .ref s.heap.objs.size, rawInt 0, .none, .none] }) rfl
    rw [hz] at g
    exact g
  exact ⟨⟨_, he, rfl⟩, h _ he (Heap.get?_push_of_some _ (Heap.get?_push_size _ B.free)) fun b o x => Heap.get?_push_of_some _ (Heap.get?_push_of_some _ x)⟩
end
/-- the tuple at a, each item with its number in a new pair -/
def Itet (K : PySem.W.Frag) (a : Addr) : It where
  go := fun i H => ∃ (xs : List V) (x : V), SqT K H a xs ∧ xs[i]? = some x
  yld := fun i H v H' => ∃ T x, v = .ref T ∧ H T = none ∧ H' = upd H T (.tup [.int (i : Nat), x]) ∧ ∀ xs, SqT K H a xs → xs[i]? = some x
  stop := fun i H => ∃ xs : List V, SqT K H a xs ∧ xs.length = i
theorem turn_enumT {P : Program} {w : World} {K : PySem.W.Frag} {elts : List Expr} {kk : Nat} {tpos : Pos} (a e it : Addr) (hne : e ≠ it) (hat : a ≠ it) (hea : e ≠ a) :
    Turn P w K (.Tuple elts kk tpos) (Itet K a) [e, it] e (fun i h => (∃ old, IsEnum h e it ((i : Nat) : Int) old) ∧ h.IsTupleIter it a i) where
  mem := by simp
  obj := fun i h st b hb => by
    obtain ⟨⟨old, he⟩, ⟨o, ho, hc, hd⟩⟩ := st
    rcases (show b = e ∨ b = it by simpa using hb) with z | z
    · subst z
      exact ⟨_, he, fun v q => nomatch q⟩
    · subst z
      exact ⟨o, ho, fun v q => by rw [hd] at q; cases q⟩
  keep := fun i h h' st k => by
    obtain ⟨⟨old, he⟩, hi⟩ := st
    exact ⟨⟨old, k e (by simp) _ he⟩, hi.at fun o q => k it (by simp) o q⟩
  item := by
    intro X hP hw hK hc i pins s σ H E I hf st hg
    subst hP hw hK
    obtain ⟨⟨old, he⟩, hit⟩ := st
    obtain ⟨xs, x, hq, hx⟩ := hg
    obtain ⟨its, rv, p, hz⟩ := I.tuple hq
    obtain ⟨u, hu, ru⟩ := rv.get hx
    have hel : e < s.heap.objs.size := Heap.lt_size he
    have hil : it < s.heap.objs.size := by
      obtain ⟨_, q, _⟩ := hit
      exact Heap.lt_size q
    have hd : (X.A.in1).handled = none := I.ok.hd hc
    have hlt : i < its.toArray.size := by
      have := (List.getElem?_eq_some_iff.mp hu).1
      simpa using this
    refine wpAny_pyNext_enum_itemD (Draws.tuple hd it a hat its.toArray) he (i := i) ⟨hit, p⟩ hlt hne (by simp [hne, hea]) fun y h' tk hy ho st' hT hsz hk => ?_
    have ey : y = u := by
      have : its.toArray[i]? = some u := by simpa using hu
      rw [this] at hy
      exact (Option.some.inj hy).symm
    subst ey
    refine ⟨_, rfl, wpAny_letOwnedTupleGo_enum (s := { s with heap := h', toks := tk + 1 }) ho fun h'' he' sb => ?_⟩
    have hT2 : h''.get? s.heap.objs.size = some { cls := .type "tuple", data := .seq #[.int i tk, y] } := (sb.2 _ (Nat.ne_of_gt hel)).trans hT
    have new : ObjOk X.prog X.w (upd H s.heap.objs.size (.tup [.int (i : Nat), x])) h'' s.heap.objs.size (.tup [.int (i : Nat), x]) :=
      ⟨by show 2 ≤ sizeLine; decide, [.int i tk, y], .cons ⟨_, rfl⟩ (.cons ru .nil), ⟨_, hT2, rfl, _, rfl⟩⟩
    have I1 : Inv X pins σ (upd H s.heap.objs.size (.tup [.int (i : Nat), x])) { s with heap := h'', toks := tk + 1 } := by
      refine I.turnedNew (ch := [e, it]) (fun b ob hb q => ?_) hf (Nat.le_refl _) new
      have h1 : b ≠ e := fun z => hb (by simp [z])
      have h2 : b ≠ it := fun z => hb (by simp [z])
      exact (sb.2 b h1).trans (hk b ob h1 h2 q)
    refine ⟨.ref s.heap.objs.size, _, I1, rfl, ⟨_, x, rfl, I.hok.fresh (Nat.le_refl _), rfl, fun ys hy' => ?_⟩, ⟨⟨y, ?_⟩, st'.1.at fun o q => (sb.2 it (Ne.symm hne)).trans q⟩, fun b hb => ?_⟩
    · rw [I.tuple_inj hy' hq]
      exact hx
    · have e1 : ((i + 1 : Nat) : Int) = (i : Int) + 1 := by omega
      rw [e1]
      exact he'
    · have hb' : b < s.heap.objs.size := by
        rcases (show b = e ∨ b = it by simpa using hb) with z | z
        · rw [z]; exact hel
        · rw [z]; exact hil
      rw [upd_ne (Nat.ne_of_lt hb')]
      exact (hf b hb).1
  done := by
    intro X hP hw hK hc i pins s σ H E I hf st hg
    subst hP hw hK
    obtain ⟨⟨old, he⟩, hit⟩ := st
    obtain ⟨xs, hq, hx⟩ := hg
    obtain ⟨its, rv, p, hz⟩ := I.tuple hq
    obtain ⟨f0, f1, f2, f3, f4, f5⟩ := hf it (by simp)
    have hl := rv.length
    have hd : (X.A.in1).handled = none := I.ok.hd hc
    have ei : i = its.toArray.size := by
      rw [List.size_toArray]
      omega
    subst ei
    exact wpAny_pyNext_enum_endD (Draws.tuple hd it a hat its.toArray) he ⟨hit, p⟩ fun h' eb => ⟨rfl, I.turned (t' := s.toks) (fun b o hb q => eb b o hb q) f0 f1 f3 f4 f5⟩
  self := fun A i s Q E st h => by
    obtain ⟨⟨_, he⟩, _⟩ := st
    exact wpAny_pyIter_enum he h
def iEnumT (K : PySem.W.Frag) (ta : TA) : TI := fun σ H R => ta σ H fun vs H1 => ∃ a xs, vs = [.ref a] ∧ SqT K H1 a xs ∧ R (Itet K a) H1
theorem pi_enumT {X : Cx} {e : Expr} {ta : TA} {p pos tpos : Pos} {elts : List Expr} {kk : Nat} (hg : Gl X "enumerate") (hm : X.mg "enumerate" = none) (ha : PA X [e] ta)
    (hs : starEach [e] X.env = [(false, eval e X.env)] := by rfl) : PI X (.Tuple elts kk tpos) (.Call (.Name "enumerate" p) [e] [] pos) (iEnumT X.K ta) := by
  refine ⟨fun pins s σ H R I h => ?_⟩
  refine Call_ (ld_blt I hg hm boot_enumerate (PyProof.Rows.callWith_type1 (thn (ha.run pos pins s σ H _ I h) fun us s1 ⟨vs, H1, I1, r1, q1⟩ => ?_) hs rfl))
  obtain ⟨a, xs, ex, hq, q⟩ := q1
  subst ex
  cases r1 with
  | cons r rr =>
    cases rr
    cases r
    obtain ⟨its, rv, p', hz⟩ := I1.tuple hq
    have hal : a < s1.heap.objs.size := by
      obtain ⟨_, q', _⟩ := p'
      exact Heap.lt_size q'
    refine enum_call1 (begins_tuple a its.toArray) p' fun h' he hit hk => wpAny_pyIter_enum he ?_
    have I2 : Inv X pins σ H1 { s1 with heap := h' } := I1.kept (t' := s1.toks) hk
    refine ⟨s1.heap.objs.size + 1, [s1.heap.objs.size + 1, s1.heap.objs.size], _, _, H1, rfl, I2,
      turn_enumT a (s1.heap.objs.size + 1) s1.heap.objs.size (Nat.succ_ne_self _) (Nat.ne_of_lt hal) (Nat.ne_of_gt (Nat.lt_succ_of_lt hal)), ⟨⟨.none, he⟩, ⟨_, hit, rfl, rfl⟩⟩, fun b hb => ?_, q⟩
    have hle : s1.heap.objs.size ≤ b := by
      rcases (show b = s1.heap.objs.size + 1 ∨ b = s1.heap.objs.size by simpa using hb) with z | z
      · rw [z]; exact Nat.le_add_right _ _
      · rw [z]; exact Nat.le_refl _
    exact I1.fpOk hle (I1.hok.fresh hle)
theorem walk_enumT {K : PySem.W.Frag} {a : Addr} {xs : List V} : Walk (Itet K a) xs.length (fun H => SqT K H a xs) (YPair (fun i => some (.int (i : Nat))) (fun i => xs[i]?)) where
  goes := fun i H hi h => ⟨xs, xs[i], h, List.getElem?_eq_getElem hi⟩
  stops := fun H h => ⟨xs, h, rfl⟩
  yields := fun i H x H' hi h ⟨T, y, e1, e2, e3, e4⟩ => ⟨T, .int (i : Nat), y, e1, e2, e3, rfl, e4 xs h⟩
end Wr

set_option Elab.async false
set_option linter.all false
set_option maxRecDepth 100000
set_option maxHeartbeats 4000000
namespace Wr
open PySem PySem.Spec PyProof.Rows L2 Evl

/-! ### flat data -/
def flatP : PyData → Bool
  | .none => true
  | .bool _ => true
  | .int _ => true
  | .str _ => true
  | _ => false
def vOf : PyData → V
  | .bool b => .bl b
  | .int i => .int i
  | .str x => .str x
  | _ => .non
theorem dp_flat {K : PySem.W.Frag} {H : Hp} {v : V} {d : PyData} (h : Dd K H v d) (f : flatP d = true) : v = vOf d := by
  cases h with
  | non => rfl
  | bl b => rfl
  | int i => rfl
  | str x => rfl
  | lst _ _ => cases f
  | tup _ _ _ => cases f
theorem flat_dp {K : PySem.W.Frag} {H : Hp} {d : PyData} (f : flatP d = true) : Dd K H (vOf d) d := by
  cases d with
  | none => exact .non
  | bool b => exact .bl b
  | int i => exact .int i
  | str x => exact .str x
  | list _ => cases f
  | tuple _ => cases f
  | dict _ => cases f
theorem flats_dp {K : PySem.W.Frag} {H : Hp} : ∀ {ds : List PyData}, (∀ d ∈ ds, flatP d = true) → DdAll K H (ds.map vOf) ds
  | [], _ => .nil
  | d :: ds, f => .cons (flat_dp (f d List.mem_cons_self)) (flats_dp fun e he => f e (List.mem_cons_of_mem _ he))
theorem wipe_set1 {σ : L2.St} {n : Nat} {x : Option V} : wipe ((wipe σ [n]).set n x) [n] = wipe σ [n] := by
  show ((σ.set n none).set n x).set n none = σ.set n none
  rw [List.set_set, List.set_set]
section
variable {K : PySem.W.Frag} {b : List Addr} {σ : L2.St} {H H' : Hp} {ta te : TE} {tt : TT} {d : PyData} {ds : List PyData}
/-- a comprehension with one name, a test and flat items, over anything that is walked -/
theorem lc_flat {J : It} {n : Nat} {G : Hp → Prop} {xs : List V} {H2 : Hp} {k : Nat} {g : Nat → PyData} {p : Nat → Bool} (W : Walk J n G (YAt xs)) (hn : n = xs.length) (hl : n < sizeLine) (kn : Kn b H2) (hG : ∀ H3, Ex H2 H3 → G H3)
    (hp : ∀ i x H3, xs[i]? = some x → Ex H2 H3 → EvT tt ((wipe σ [k]).set k (some x)) H3 (p i))
    (he : ∀ i x H3, xs[i]? = some x → p i = true → Ex H2 H3 → ED K b te ((wipe σ [k]).set k (some x)) H3 (g i)) (hf : ∀ i, i < n → p i = true → flatP (g i) = true)
    {Q : VK} (q : ∀ v H3, Ex H2 H3 → Dq K b H3 v (.list (((List.range n).filter p).map g)) → Q v H3) (D : Addr) (hD : H2 D = none) :
    ∃ W : Nat → Nat → Hp → Prop, (∃ m, W 0 m (upd H2 D (.lst []))) ∧ ∀ i m H, W i m H →
      (J.stop i H ∧ Q (.ref D) H) ∨ (J.go i H ∧ ∃ Nx : Hp → Prop, (∀ H', Nx H' → ∃ m', m' < m ∧ W (i + 1) m' H') ∧ ∀ x H', J.yld i H x H' → gName k x (wipe σ [k]) H' fun σ2 H2 => wipe σ2 [k] = wipe σ [k] ∧ tt σ2 H2 fun b H3 =>
        if b = true then te σ2 H3 fun y H4 => ∃ acc, H4 D = some (.lst acc) ∧ acc.length < sizeLine ∧ Nx (upd H4 D (.lst (acc ++ [y]))) else Nx H3) := by
  refine lc_it W (fun i H3 => Ex H2 H3 ∧ H3 D = some (.lst ((((List.range i).filter p).map g).map vOf))) ⟨Ex.new hD, upd_same⟩ (fun i H3 _ h => hG H3 h.1) ?_ ?_
  · intro i x H3 H3' hi ⟨x3, e3⟩ ⟨e1, hx⟩
    subst e1
    refine ⟨wipe_set1, hp i x H3' hx x3 H3' (Ex.refl _) _ fun H4 x4 => ?_⟩
    have er : ∀ c, p i = c → (List.range (i + 1)).filter p = (List.range i).filter p ++ (if c = true then [i] else []) := fun c hc => by
      rw [List.range_succ, List.filter_append]
      cases c with
      | true => simp [hc]
      | false => simp [hc]
    cases hpi : p i with
    | false =>
      rw [if_neg Bool.false_ne_true]
      refine ⟨x3.trans x4, ?_⟩
      rw [er false hpi, if_neg Bool.false_ne_true, List.append_nil]
      exact x4 _ _ e3
    | true =>
      rw [if_pos rfl]
      refine he i x H4 hx hpi (x3.trans x4) H4 (Ex.refl _) _ fun y H5 x5 hy => ?_
      have ey := dp_flat hy (hf i hi hpi)
      refine ⟨_, x5 _ _ (x4 _ _ e3), ?_, Ex.mut (x3.trans (x4.trans x5)) hD, ?_⟩
      · rw [List.length_map, List.length_map]
        have := List.length_filter_le p (List.range i)
        rw [List.length_range] at this
        omega
      · rw [upd_same, er true hpi, if_pos rfl, List.map_append, List.map_append, ey]
        rfl
  · intro H3 ⟨x3, e3⟩
    refine q _ H3 x3 (.lst (.inl (.inl ?_)) (flats_dp fun d hd => ?_))
    · rw [hid_ne (kn.new hD)]
      exact e3
    · obtain ⟨i, hi, rfl⟩ := List.mem_map.mp hd
      obtain ⟨h1, h2⟩ := List.mem_filter.mp hi
      exact hf i (List.mem_range.mp h1) h2
theorem range_map {α β : Type} (xs : List α) (f : α → β) (g : Nat → β) (h : ∀ i x, xs[i]? = some x → g i = f x) : (List.range xs.length).map g = xs.map f := by
  apply List.ext_getElem?
  intro i
  rw [List.getElem?_map, List.getElem?_map]
  by_cases hi : i < xs.length
  · rw [List.getElem?_eq_getElem (by rw [List.length_range]; exact hi), List.getElem?_eq_getElem hi, List.getElem_range]
    simp [h i xs[i] (List.getElem?_eq_getElem hi)]
  · rw [List.getElem?_eq_none (by rw [List.length_range]; omega), List.getElem?_eq_none (by omega)]
    rfl
theorem range_filter_map {α β : Type} (f : α → β) (p : α → Bool) : ∀ (xs : List α) (g : Nat → β) (q : Nat → Bool), (∀ i x, xs[i]? = some x → q i = p x ∧ (p x = true → g i = f x)) → ((List.range xs.length).filter q).map g = (xs.filter p).map f
  | [], _, _, _ => rfl
  | x :: xs, g, q, h => by
    rw [List.length_cons, List.range_succ_eq_map, List.filter_cons]
    obtain ⟨h1, h2⟩ := h 0 x rfl
    have ih := range_filter_map f p xs (fun i => g (i + 1)) (fun i => q (i + 1)) fun i y hy => h (i + 1) y hy
    have e : ((List.range xs.length).map Nat.succ).filter q = ((List.range xs.length).filter fun i => q (i + 1)).map Nat.succ := by
      rw [List.filter_map]
      rfl
    have e2 : (((List.range xs.length).map Nat.succ).filter q).map g = (xs.filter p).map f := by
      rw [e, List.map_map, ← ih]
      rfl
    rw [h1, List.filter_cons]
    cases hp : p x with
    | true =>
      rw [if_pos rfl, if_pos rfl, List.map_cons, List.map_cons, e2, h2 hp]
    | false =>
      rw [if_neg Bool.false_ne_true, if_neg Bool.false_ne_true, e2]
/-- over a tuple, a list: no test -/
theorem et_yes : EvT tYes σ H true := fun H1 x Q q => q H1 (Ex.refl H1)
/-- over a tuple or a list: with a test; items flat -/
theorem ed_lcT {k : Nat} {f : PyData → PyData} {p : PyData → Bool} (kn : Kn b H) (ha : ED K b ta σ H (.tuple ds)) (hl : ds.length < sizeLine)
    (hp : ∀ d v H3, d ∈ ds → Ex H H3 → Dq K b H3 v d → EvT tt ((wipe σ [k]).set k (some v)) H3 (p d))
    (he : ∀ d v H3, d ∈ ds → p d = true → Ex H H3 → Dq K b H3 v d → ED K b te ((wipe σ [k]).set k (some v)) H3 (f d)) (hf : ∀ d ∈ ds, p d = true → flatP (f d) = true) :
    ED K b (tLc (iTup K ta) (gName k) tt te [k]) σ H (.list ((ds.filter p).map f)) := fun H1 x1 Q q =>
  ha H1 x1 _ fun x H2 x2 hx => by
    cases hx with
    | @tup a xs _ h1 _ h2 =>
      have hlen := dps_len h2
      have at_ : ∀ i x, xs[i]? = some x → ∃ d, ds[i]? = some d ∧ d ∈ ds ∧ Dq K b H2 x d := fun i x hx => by
        obtain ⟨d, g1, g2⟩ := dps_at h2 hx
        exact ⟨d, g1, List.mem_of_getElem? g1, g2⟩
      refine ⟨a, rfl, ⟨xs, ex_t hid_le h1⟩, lc_flat (K := K) (g := fun i => f (ds.getD i .none)) (p := fun i => p (ds.getD i .none)) walk_tup rfl (by rw [hlen]; exact hl) (kn.up (x1.trans x2)) (fun H3 x3 => ex_t x3 (ex_t hid_le h1)) ?_ ?_ ?_ ?_⟩
      · intro i x H3 hx x3
        obtain ⟨d, g1, g2, g3⟩ := at_ i x hx
        simp only [List.getD_eq_getElem?_getD, g1, Option.getD_some]
        exact hp d x H3 g2 ((x1.trans x2).trans x3) (g3.up x3)
      · intro i x H3 hx hpi x3
        obtain ⟨d, g1, g2, g3⟩ := at_ i x hx
        simp only [List.getD_eq_getElem?_getD, g1, Option.getD_some] at hpi ⊢
        exact he d x H3 g2 hpi ((x1.trans x2).trans x3) (g3.up x3)
      · intro i hi hpi
        have hi' : i < ds.length := by omega
        have g1 : ds[i]? = some ds[i] := List.getElem?_eq_getElem hi'
        simp only [List.getD_eq_getElem?_getD, g1, Option.getD_some] at hpi ⊢
        exact hf _ (List.getElem_mem hi') hpi
      · intro v H3 x3 hv
        refine q v H3 (x2.trans x3) ?_
        rw [hlen] at hv
        rw [range_filter_map f p ds _ _ fun i d hd => ⟨by simp only [List.getD_eq_getElem?_getD, hd, Option.getD_some], fun _ => by simp only [List.getD_eq_getElem?_getD, hd, Option.getD_some]⟩] at hv
        exact hv
theorem ed_lcL {k : Nat} {f : PyData → PyData} {p : PyData → Bool} (kn : Kn b H) (ha : ED K b ta σ H (.list ds)) (hl : ds.length < sizeLine)
    (hp : ∀ d v H3, d ∈ ds → Ex H H3 → Dq K b H3 v d → EvT tt ((wipe σ [k]).set k (some v)) H3 (p d))
    (he : ∀ d v H3, d ∈ ds → p d = true → Ex H H3 → Dq K b H3 v d → ED K b te ((wipe σ [k]).set k (some v)) H3 (f d)) (hf : ∀ d ∈ ds, p d = true → flatP (f d) = true) :
    ED K b (tLc (iList K ta) (gName k) tt te [k]) σ H (.list ((ds.filter p).map f)) := fun H1 x1 Q q =>
  ha H1 x1 _ fun x H2 x2 hx => by
    cases hx with
    | @lst a xs _ h1 h2 =>
      have hlen := dps_len h2
      have at_ : ∀ i x, xs[i]? = some x → ∃ d, ds[i]? = some d ∧ d ∈ ds ∧ Dq K b H2 x d := fun i x hx => by
        obtain ⟨d, g1, g2⟩ := dps_at h2 hx
        exact ⟨d, g1, List.mem_of_getElem? g1, g2⟩
      refine ⟨a, rfl, ⟨xs, ex_l hid_le h1⟩, lc_flat (K := K) (g := fun i => f (ds.getD i .none)) (p := fun i => p (ds.getD i .none)) walk_list rfl (by rw [hlen]; exact hl) (kn.up (x1.trans x2)) (fun H3 x3 => ex_l x3 (ex_l hid_le h1)) ?_ ?_ ?_ ?_⟩
      · intro i x H3 hx x3
        obtain ⟨d, g1, g2, g3⟩ := at_ i x hx
        simp only [List.getD_eq_getElem?_getD, g1, Option.getD_some]
        exact hp d x H3 g2 ((x1.trans x2).trans x3) (g3.up x3)
      · intro i x H3 hx hpi x3
        obtain ⟨d, g1, g2, g3⟩ := at_ i x hx
        simp only [List.getD_eq_getElem?_getD, g1, Option.getD_some] at hpi ⊢
        exact he d x H3 g2 hpi ((x1.trans x2).trans x3) (g3.up x3)
      · intro i hi hpi
        have hi' : i < ds.length := by omega
        have g1 : ds[i]? = some ds[i] := List.getElem?_eq_getElem hi'
        simp only [List.getD_eq_getElem?_getD, g1, Option.getD_some] at hpi ⊢
        exact hf _ (List.getElem_mem hi') hpi
      · intro v H3 x3 hv
        refine q v H3 (x2.trans x3) ?_
        rw [hlen] at hv
        rw [range_filter_map f p ds _ _ fun i d hd => ⟨by simp only [List.getD_eq_getElem?_getD, hd, Option.getD_some], fun _ => by simp only [List.getD_eq_getElem?_getD, hd, Option.getD_some]⟩] at hv
        exact hv
theorem filter_yes {α β : Type} (xs : List α) (f : α → β) : (xs.filter fun _ => true).map f = xs.map f := by
  rw [List.filter_eq_self.mpr fun _ _ => rfl]
theorem ed_lcT1 {k : Nat} {f : PyData → PyData} (kn : Kn b H) (ha : ED K b ta σ H (.tuple ds)) (hl : ds.length < sizeLine)
    (he : ∀ d v H3, d ∈ ds → Ex H H3 → Dq K b H3 v d → ED K b te ((wipe σ [k]).set k (some v)) H3 (f d)) (hf : ∀ d ∈ ds, flatP (f d) = true) :
    ED K b (tLc (iTup K ta) (gName k) tYes te [k]) σ H (.list (ds.map f)) :=
  (ed_lcT (p := fun _ => true) kn ha hl (fun _ _ _ _ _ _ => et_yes) (fun d v H3 h _ x hd => he d v H3 h x hd) fun d h _ => hf d h).to (by rw [filter_yes])
theorem ed_lcL1 {k : Nat} {f : PyData → PyData} (kn : Kn b H) (ha : ED K b ta σ H (.list ds)) (hl : ds.length < sizeLine)
    (he : ∀ d v H3, d ∈ ds → Ex H H3 → Dq K b H3 v d → ED K b te ((wipe σ [k]).set k (some v)) H3 (f d)) (hf : ∀ d ∈ ds, flatP (f d) = true) :
    ED K b (tLc (iList K ta) (gName k) tYes te [k]) σ H (.list (ds.map f)) :=
  (ed_lcL (p := fun _ => true) kn ha hl (fun _ _ _ _ _ _ => et_yes) (fun d v H3 h _ x hd => he d v H3 h x hd) fun d h _ => hf d h).to (by rw [filter_yes])
/-- over the signs of a text, with a test -/
theorem ed_lcS {k : Nat} {z : Str} {p : Nat → Bool} (hk : k < σ.length) (kn : Kn b H) (ha : ED K b ta σ H (.str z)) (hl : z.length < sizeLine)
    (hp : ∀ c H3, c ∈ z.cps.toList → Ex H H3 → EvT tt ((wipe σ [k]).set k (some (.str ⟨#[c]⟩))) H3 (p c)) :
    ED K b (tLc (iStr ta) (gName k) tt (tVar k) [k]) σ H (.list ((z.cps.toList.filter p).map fun c => .str ⟨#[c]⟩)) := fun H1 x1 Q q =>
  ha H1 x1 _ fun x H2 x2 hx => by
    cases hx
    have hsz : z.cps.size = (z.cps.toList.map fun c => V.str ⟨#[c]⟩).length := by rw [List.length_map, Array.length_toList]
    have wk : Walk (Its z) z.cps.size (fun _ => True) (YAt (z.cps.toList.map fun c => V.str ⟨#[c]⟩)) := walk_str.mono (fun _ _ => trivial) fun i H x H' _ _ ⟨e, c, h1, h2⟩ => ⟨e, by
      rw [List.getElem?_map, Array.getElem?_toList, h1, h2]
      rfl⟩
    have at_ : ∀ i x, (z.cps.toList.map fun c => V.str ⟨#[c]⟩)[i]? = some x → ∃ c, z.cps.toList[i]? = some c ∧ x = V.str ⟨#[c]⟩ := fun i x hx => by
      rw [List.getElem?_map] at hx
      cases e : z.cps.toList[i]? with
      | none => rw [e] at hx; cases hx
      | some c =>
        rw [e] at hx
        exact ⟨c, e, (Option.some.inj hx).symm⟩
    refine ⟨z, rfl, lc_flat (K := K) (g := fun i => .str ⟨#[z.cps.toList.getD i 0]⟩) (p := fun i => p (z.cps.toList.getD i 0)) wk hsz (show z.cps.size < _ from hl) (kn.up (x1.trans x2)) (fun _ _ => trivial) ?_ ?_ ?_ ?_⟩
    · intro i x H3 hx x3
      obtain ⟨c, g1, rfl⟩ := at_ i x hx
      simp only [List.getD_eq_getElem?_getD, g1, Option.getD_some]
      exact hp c H3 (List.mem_of_getElem? g1) ((x1.trans x2).trans x3)
    · intro i x H3 hx hpi x3
      obtain ⟨c, g1, rfl⟩ := at_ i x hx
      simp only [List.getD_eq_getElem?_getD, g1, Option.getD_some]
      refine ed_var ?_ (.str _)
      show ((σ.set k none).set k _)[k]? = _
      rw [List.getElem?_set_self (by rw [List.length_set]; exact hk)]
    · intro i hi _
      rfl
    · intro v H3 x3 hv
      refine q v H3 (x2.trans x3) ?_
      have e0 : z.cps.size = z.cps.toList.length := by rw [Array.length_toList]
      rw [e0] at hv
      rw [range_filter_map (fun c => PyData.str ⟨#[c]⟩) p z.cps.toList _ _ fun i d hd => ⟨by simp only [List.getD_eq_getElem?_getD, hd, Option.getD_some], fun _ => by simp only [List.getD_eq_getElem?_getD, hd, Option.getD_some]⟩] at hv
      exact hv
end
end Wr

set_option Elab.async false
set_option linter.all false
set_option maxRecDepth 100000
set_option maxHeartbeats 8000000
namespace Wr
open PySem PySem.Spec PyProof.Rows L2 Evl

/-! ### set(texts) -/
/-- each once, as first met -/
def uqStep (acc : List Str) (x : Str) : List Str := if x ∈ acc then acc else acc ++ [x]
def uq (xs : List Str) : List Str := xs.foldl uqStep []
theorem uq_snoc (xs : List Str) (x : Str) : uq (xs ++ [x]) = uqStep (uq xs) x := by
  unfold uq
  rw [List.foldl_append]
  rfl
theorem uq_le : ∀ (xs acc : List Str), (xs.foldl uqStep acc).length ≤ acc.length + xs.length
  | [], acc => Nat.le_refl _
  | x :: xs, acc => by
    have ih := uq_le xs (uqStep acc x)
    have h1 : (uqStep acc x).length ≤ acc.length + 1 := by
      unfold uqStep
      split
      · omega
      · rw [List.length_append]; exact Nat.le_refl _
    rw [List.foldl_cons, List.length_cons]
    omega
theorem uq_length_le (xs : List Str) : (uq xs).length ≤ xs.length := by
  have := uq_le xs []
  rw [List.length_nil, Nat.zero_add] at this
  exact this
theorem uq_mem_acc : ∀ (xs acc : List Str) (y : Str), y ∈ xs.foldl uqStep acc ↔ y ∈ acc ∨ y ∈ xs
  | [], acc, y => by simp
  | x :: xs, acc, y => by
    rw [List.foldl_cons, uq_mem_acc xs (uqStep acc x) y, List.mem_cons]
    unfold uqStep
    split
    · constructor
      · rintro (h | h)
        · exact .inl h
        · exact .inr (.inr h)
      · rintro (h | rfl | h)
        · exact .inl h
        · exact .inl (by assumption)
        · exact .inr h
    · rw [List.mem_append, List.mem_singleton]
      constructor
      · rintro ((h | h) | h)
        · exact .inl h
        · exact .inr (.inl h)
        · exact .inr (.inr h)
      · rintro (h | h | h)
        · exact .inl (.inl h)
        · exact .inl (.inr h)
        · exact .inr h
theorem uq_mem (xs : List Str) (y : Str) : y ∈ uq xs ↔ y ∈ xs := by
  unfold uq
  rw [uq_mem_acc]
  simp
theorem uq_nodup_acc : ∀ (xs acc : List Str), acc.Nodup → (xs.foldl uqStep acc).Nodup
  | [], acc, h => h
  | x :: xs, acc, h => by
    rw [List.foldl_cons]
    refine uq_nodup_acc xs _ ?_
    unfold uqStep
    split
    · exact h
    · rename_i hx
      rw [List.nodup_append]
      refine ⟨h, by simp, fun a ha c hc => ?_⟩
      rw [List.mem_singleton] at hc
      intro e
      exact hx (hc ▸ e ▸ ha)
theorem uq_nodup (xs : List Str) : (uq xs).Nodup := uq_nodup_acc xs [] List.nodup_nil
theorem uq_all : ∀ (xs acc : List Str), (acc ++ xs).Nodup → xs.foldl uqStep acc = acc ++ xs
  | [], acc, _ => by simp
  | x :: xs, acc, h => by
    rw [List.foldl_cons]
    have hx : x ∉ acc := fun hm => by
      rw [List.nodup_append] at h
      exact h.2.2 x hm x List.mem_cons_self rfl
    have e : uqStep acc x = acc ++ [x] := if_neg hx
    rw [e, uq_all xs (acc ++ [x]) (by rw [List.append_assoc]; exact h), List.append_assoc]
    rfl
/-- as many as there are, just where no text stands twice -/
theorem uq_len_iff (xs : List Str) : (uq xs).length = xs.length ↔ xs.Nodup := by
  constructor
  · intro h
    have h1 := uq_nodup xs
    have sub : ∀ y ∈ xs, y ∈ uq xs := fun y hy => (uq_mem xs y).mpr hy
    by_cases hn : xs.Nodup
    · exact hn
    · exfalso
      have key : ∀ (xs acc : List Str), ¬ xs.Nodup → (xs.foldl uqStep acc).length < acc.length + xs.length := by
        intro xs
        induction xs with
        | nil => intro acc h; exact absurd List.nodup_nil h
        | cons x r ih =>
          intro acc h
          rw [List.foldl_cons, List.length_cons]
          by_cases hx : x ∈ acc
          · have e : uqStep acc x = acc := if_pos hx
            rw [e]
            have := uq_le r acc
            omega
          · have e : uqStep acc x = acc ++ [x] := if_neg hx
            by_cases hr : r.Nodup
            · have hxr : x ∈ r := by
                by_cases q : x ∈ r
                · exact q
                · exact absurd (List.nodup_cons.mpr ⟨q, hr⟩) h
              have low : ∀ (r acc : List Str) (x : Str), x ∈ acc → x ∈ r → (r.foldl uqStep acc).length < acc.length + r.length := by
                intro r
                induction r with
                | nil => intro acc x _ hm; cases hm
                | cons y r ih2 =>
                  intro acc x ha hm
                  rw [List.foldl_cons, List.length_cons]
                  by_cases hy : y ∈ acc
                  · have e : uqStep acc y = acc := if_pos hy
                    rw [e]
                    have := uq_le r acc
                    omega
                  · have e : uqStep acc y = acc ++ [y] := if_neg hy
                    rcases List.mem_cons.mp hm with rfl | hm
                    · exact absurd ha hy
                    · have := ih2 (acc ++ [y]) x (List.mem_append_left _ ha) hm
                      rw [e]
                      rw [List.length_append, List.length_singleton] at this
                      omega
              rw [e]
              have := low r (acc ++ [x]) x (by simp) hxr
              rw [List.length_append, List.length_singleton] at this
              omega
            · have := ih (acc ++ [x]) hr
              rw [e]
              rw [List.length_append, List.length_singleton] at this
              omega
      have := key xs [] hn
      rw [List.length_nil, Nat.zero_add] at this
      unfold uq at h
      omega
  · intro h
    unfold uq
    rw [uq_all xs [] h]
    rfl
def inK (L : List Str) (k : Key) : Bool := L.any fun x => decide (k = Sum.inr x)
theorem inK_step (L : List Str) (x : Str) : (fun k => inK L k || decide (k = (Sum.inr x : Key))) = inK (uqStep L x) := by
  funext k
  unfold uqStep inK
  split
  · rename_i hx
    by_cases e : k = Sum.inr x
    · have : (L.any fun x => decide (k = Sum.inr x)) = true := List.any_eq_true.mpr ⟨x, hx, decide_eq_true e⟩
      rw [this]
      rfl
    · rw [decide_eq_false e, Bool.or_false]
  · rw [List.any_append]
    simp
theorem inK_self (L : List Str) (x : Str) : inK L (Sum.inr x) = decide (x ∈ L) := by
  unfold inK
  by_cases h : x ∈ L
  · rw [decide_eq_true h]
    exact List.any_eq_true.mpr ⟨x, h, decide_eq_true rfl⟩
  · rw [decide_eq_false h]
    apply Bool.eq_false_iff.mpr
    intro q
    obtain ⟨y, hy, e⟩ := List.any_eq_true.mp q
    have e1 := of_decide_eq_true e
    cases e1
    exact h hy
section
variable {prog : Program} {w : World} {A : Around} {R : Result → Shared → Prop} {I : Addr} {fp wr : List Addr} {G : Array GenState → Array GenState → Prop} {n : Nat} {P : Nat → Value → Prop} {St : Nat → Shared → Prop}
/-- the loop that fills a set of texts -/
theorem fill_texts (W : WalksS prog w A.in1 I fp wr G n P St) (S : Addr) (hSf : S ∉ fp) (xs : List Str) (hsz : xs.length = n) (hn1 : n + 1 < scanBound)
    (hval : ∀ i v, P i v → ∃ x t, xs[i]? = some x ∧ v = .str x t) : ∀ (k i : Nat) (s : Shared), n - i = k → i ≤ n → St i s →
      s.heap.SetOf (mixKind prog w) S (inK (uq (xs.take i))) (uq (xs.take i)).length →
      (∀ s', Moved (S :: wr) G s s' → s'.heap.SetOf (mixKind prog w) S (inK (uq xs)) (uq xs).length → R (.ok (.ret .none)) s') →
      codeAny (model prog w) A (.builtin "set.update.loop" ⟨[.ref S, .ref I], []⟩) R s := by
  have out : S ∉ wr := fun h => hSf (W.sub _ h)
  have more : ∀ c ∈ wr, c ∈ S :: wr := fun c hc => List.mem_cons_of_mem _ hc
  intro k
  induction k with
  | zero =>
    intro i s hk hi hst hS hR
    obtain rfl : i = n := by omega
    refine codeAny_builtin PyProof.Rows.F.entry_set_update_loop ?_
    rw [Around.under_plainId PyProof.Rows.F.plain_set_update_loop _]
    show wpAny _ A.in1 (pyNext (.ref I) >>= _) _ _ s
    refine wpAny_bind (W.done s _ _ hst fun s' hm => ?_)
    show wpAny _ A.in1 (ret Value.none) _ _ s'
    refine wpAny_pure (hR s' (hm.mono more) ?_)
    rw [List.take_of_length_le (by omega)] at hS
    obtain ⟨o, es, ep, t, ho, rest⟩ := hS
    exact ⟨o, es, ep, t, hm.heap S _ out ho, rest⟩
  | succ k ih =>
    intro i s hk hi hst hS hR
    have hlt : i < n := by omega
    refine codeAny_builtin PyProof.Rows.F.entry_set_update_loop ?_
    rw [Around.under_plainId PyProof.Rows.F.plain_set_update_loop _]
    show wpAny _ A.in1 (pyNext (.ref I) >>= _) _ _ s
    refine wpAny_bind (W.item i s _ _ hlt hst fun v s' hP hst' hm => ?_)
    obtain ⟨x, t, hx, rfl⟩ := hval i v hP
    have hS' : s'.heap.SetOf (mixKind prog w) S (inK (uq (xs.take i))) (uq (xs.take i)).length := by
      obtain ⟨o, es, ep, tb, ho, rest⟩ := hS
      exact ⟨o, es, ep, tb, hm.heap S _ out ho, rest⟩
    show wpAny _ A.in1 (holding [Value.str x t] (setAdd S (.str x t)) >>= _) _ _ s'
    refine wpAny_bind (wpAny_holding ?_)
    unfold setAdd
    refine wpAny_holding (wpAny_bind ((mixKind prog w).pyHash (k := Sum.inr x) (mixKind_str _ _ _ _) ?_))
    have room : (uq (xs.take i)).length + 1 < scanBound := by
      have h1 := uq_length_le (xs.take i)
      rw [List.length_take] at h1
      omega
    refine wpAny_setAddHashed_of (knd := mixKind prog w) (k := Sum.inr x) (s := { s' with toks := s'.toks + 1 }) (mixKind_str _ _ _ _) rfl hS' room fun h' hsb hS2 => ?_
    have et : xs.take (i + 1) = xs.take i ++ [x] := by
      rw [List.take_add_one, hx]
      rfl
    have hSi : h'.SetOf (mixKind prog w) S (inK (uq (xs.take (i + 1)))) (uq (xs.take (i + 1))).length := by
      rw [inK_step, inK_self] at hS2
      rw [et, uq_snoc]
      have el : (if decide (x ∈ uq (xs.take i)) = true then (uq (xs.take i)).length else (uq (xs.take i)).length + 1) = (uqStep (uq (xs.take i)) x).length := by
        unfold uqStep
        by_cases h : x ∈ uq (xs.take i)
        · rw [decide_eq_true h, if_pos rfl, if_pos h]
        · rw [decide_eq_false h, if_neg Bool.false_ne_true, if_neg h, List.length_append]
          rfl
      rw [el] at hS2
      exact hS2
    refine wpAny_pure ⟨plainId_quiet PyProof.Rows.F.plain_set_update_loop _, ih (i + 1) _ (by omega) hlt (W.frame _ s' _ _ hst' (Nat.le_succ _) fun c hc o e => ?_) hSi fun s'' hm'' hS'' => ?_⟩
    · have nc : c ≠ S := fun h => hSf (h ▸ hc)
      rw [hsb.2 c nc]
      exact e
    · refine hR s'' (Moved.trans W.gtrans ((hm.mono more).then_heap (Nat.le_succ _) fun c o hc e => ?_) hm'') hS''
      have nc : c ≠ S := fun h => hc (by rw [h]; exact List.mem_cons_self)
      rw [hsb.2 c nc]
      exact e
end
end Wr

set_option Elab.async false
set_option linter.all false
set_option maxRecDepth 100000
set_option maxHeartbeats 8000000
namespace Wr
open PySem PySem.Spec PyProof.Rows L2 Evl
abbrev freshSet (led : Bool) : Obj := { cls := .type "set", dict := none, data := .set #[] 0 (.fresh 0 0 led) }
section
variable {prog : Program} {w : World} {A : Around} {E : Value → Shared → Prop} {s : Shared}
/-- what set(v) asks of v: its type, its iterator -/
structure SetSrc (prog : Program) (w : World) (T : String) (l : Addr) (xs : List Str) (s : Shared) : Prop where
  sub1 : isSubtype (.type T) (.type "set") = pure false
  sub2 : isSubtype (.type T) (.type "frozenset") = pure false
  nd : (Value.type T == Value.type "dict") = false
  ob : ∃ o, s.heap.get? l = some o ∧ o.cls = .type T
  it : ∀ (A : Around) (led : Bool) (Q : Value → Shared → Prop) (E : Value → Shared → Prop), A.handled = none →
    (∀ (s2 : Shared) (I : Addr) (fp wr : List Addr) (G : Array GenState → Array GenState → Prop) (P : Nat → Value → Prop) (St : Nat → Shared → Prop), (∀ a, G a a) → (∀ a b, G a b → b = a) → WalksS prog w A.in1 I fp wr G xs.length P St → St 0 s2 →
      s.heap.objs.size ∉ fp → (∀ b o, (s.heap.push (freshSet led)).get? b = some o → s2.heap.get? b = some o) → (∀ b ∈ wr, s.heap.objs.size < b) →
      (∀ i v, P i v → ∃ x t, xs[i]? = some x ∧ v = .str x t) → s2.gens = s.gens ∧ s2.drawn = s.drawn ∧ s2.os = s.os → Q (.ref I) s2) →
    wpAny (model prog w) A (pyIter (.ref l)) Q E { s with heap := s.heap.push (freshSet led) }
theorem set_call {T : String} {l : Addr} {xs : List Str} {Q : Value → Shared → Prop} (hh : A.handled = none) (src : SetSrc prog w T l xs s) (hn : xs.length + 1 < scanBound)
    (h : ∀ (h' : Heap) (tk : Nat), h'.SetOf (mixKind prog w) s.heap.objs.size (inK (uq xs)) (uq xs).length →
      (∀ b o, b < s.heap.objs.size → s.heap.get? b = some o → h'.get? b = some o) → Q (.ref s.heap.objs.size) { s with heap := h', toks := tk }) :
    wpAny (model prog w) A (call (.type "set") [.ref l]) Q E s := by
  obtain ⟨c, tl, hmro⟩ := PySem.F.called_set.mro
  have m1 := PySem.F.called_set.made
  have m2 := PySem.F.called_set.sub
  refine wpAny_call (codeAny_of_tree ?_)
  show wpAny _ _ (callAny (.type "set") _) _ _ _
  refine wpAny_pure ⟨Code.quiet_builtin _ (by decide +kernel), codeAny_builtin PySem.F.entry_type_call ?_⟩
  rw [Around.under_plain (weight_type_call_type "set" [.ref l] []) rfl]
  have m3 := PySem.F.called_set.notType
  have m4 := PySem.F.called_set.canCreate
  have m5 := PySem.F.typeCall_set_1 (.ref l)
  repeat (any_goals (first | assumption | wp_step))
  refine codeAny_mono (code_set_new_1 (.ref l) (E := E) (Q₁ := fun obj s₁ => ∃ led : Bool, obj = .ref s.heap.objs.size ∧
    s₁ = { s with heap := s.heap.push (freshSet led) }) fun led => ⟨led, rfl, rfl⟩) fun r s₁ hr => ?_
  cases r with
  | error e => exact hr
  | ok fl =>
    cases fl with
    | ret obj =>
      obtain ⟨led, rfl, rfl⟩ := hr
      have hS : (s.heap.push (freshSet led)).get? s.heap.objs.size = some (freshSet led) := Heap.get?_push_size _ rfl
      have hT : Shared.TypeIs { s with heap := s.heap.push (freshSet led) } (.ref s.heap.objs.size) "set" := ⟨_, hS, rfl⟩
      have m6 := PySem.F.called_set.init.lookup
      have m7 := PySem.F.called_set.init.bind (.ref s.heap.objs.size)
      repeat (any_goals (first | assumption | wp_step))
      refine codeAny_mono (codeAny_call_builtin (R := wants (fun r s₂ => r = .none ∧ ∃ h' tk, s₂ = { s with heap := h', toks := tk } ∧
          h'.SetOf (mixKind prog w) s.heap.objs.size (inK (uq xs)) (uq xs).length ∧ ∀ b o, b < s.heap.objs.size → s.heap.get? b = some o → h'.get? b = some o) E)
        PySem.F.called_set.init.plain PySem.F.entry_set_init (check_set_init_1 hT ?_)) fun r₂ s₂ hr₂ => ?_
      · obtain ⟨⟨ocls, odict, odata, oslots⟩, hol, hcl⟩ := src.ob
        simp only at hcl
        subst hcl
        have hol' : (s.heap.push (freshSet led)).get? l = some { cls := .type T, dict := odict, data := odata, slots := oslots } := Heap.get?_push_of_some _ hol
        have m8 := src.sub1
        have m9 := src.sub2
        have m10 := src.nd
        unfold Builtin.«set.__init__» noKeywords Builtin.Frozenset.updateFrom
        generalize hPI : pyIter = PI
        wp_walk
        subst hPI
        refine src.it _ led _ _ (by simp [hh]) fun s2 I fp wr G P St g1 g2 W st hS2 k2 hw hval hsame => ?_
        refine wpAny_bind (wpAny_runValue ?_)
        refine fill_texts W s.heap.objs.size hS2 xs rfl hn hval (xs.length - 0) 0 _ (by omega) (Nat.zero_le _) st ?hS0 ?hR
        case hS0 =>
          have g0 : s2.heap.get? s.heap.objs.size = some (freshSet led) := k2 _ _ hS
          show s2.heap.SetOf (mixKind prog w) s.heap.objs.size (fun _ => false) 0
          exact ⟨_, #[], 0, _, g0, ⟨rfl, rfl, rfl⟩, rfl, fun e he => by simp at he, fun k => by simp, by decide, by rfl, rfl⟩
        case hR =>
          intro s' hm hS'
          obtain ⟨hp', g', d', tk', os'⟩ := s'
          obtain ⟨q1, q2, q3⟩ := hsame
          have eg : g' = s.gens := (g2 _ _ hm.gens).trans q1
          have ed : d' = s.drawn := hm.drawn.trans q2
          have eo : os' = s.os := hm.os.trans q3
          subst eg ed eo
          refine wpAny_pure ?_
          show wpAny _ _ (ret Value.none) _ _ _
          refine wpAny_pure ⟨rfl, hp', tk', rfl, hS', fun b o hb e => ?_⟩
          refine hm.heap b o (fun hmem => ?_) (k2 b o (Heap.get?_push_of_some _ e))
          rcases List.mem_cons.mp hmem with z | z
          · exact absurd (z ▸ hb) (Nat.lt_irrefl _)
          · exact absurd (hw b z) (Nat.not_lt.mpr (Nat.le_of_lt hb))
      · cases r₂ with
        | error e => exact hr₂
        | ok fl₂ =>
          cases fl₂ with
          | ret r =>
            obtain ⟨rfl, h', tk, rfl, hS', hk'⟩ := hr₂
            repeat (any_goals (first | assumption | wp_step))
            exact h _ _ hS' hk'
          | _ => exact hr₂.elim
    | _ => exact hr.elim
end
end Wr

set_option Elab.async false
set_option linter.all false
set_option maxRecDepth 100000
set_option maxHeartbeats 8000000
namespace Wr
open PySem PySem.Spec PyProof.Rows L2 Evl
theorem strs_val : ∀ {xs : List Str} {us : List Value} {i : Nat} {v : Value}, Vals (xs.map V.str) us → us[i]? = some v → ∃ x t, xs[i]? = some x ∧ v = .str x t
  | [], _, i, v, .nil, h => by simp at h
  | x :: xs, _, 0, v, .cons r _, h => by
    obtain ⟨t, e⟩ := r
    have h' := Option.some.inj h
    exact ⟨x, t, rfl, by rw [← h', e]⟩
  | x :: xs, _, i + 1, v, .cons _ r, h => by
    obtain ⟨y, t, h1, h2⟩ := strs_val r (i := i) (v := v) h
    exact ⟨y, t, h1, h2⟩
section
variable {prog : Program} {w : World} {A : Around} {E : Value → Shared → Prop} {s : Shared}
theorem src_list {l : Addr} {items : Array Value} {xs : List Str} (hl : s.heap.IsList l items) (hi : Vals (xs.map V.str) items.toList) : SetSrc prog w "list" l xs s where
  sub1 := PySem.F.sub_list_set
  sub2 := PySem.F.sub_list_frozenset
  nd := by decide
  ob := by
    obtain ⟨o, ho, hc, _⟩ := hl
    exact ⟨o, ho, hc⟩
  it := fun A led Q E hh k => by
    have hl1 : (s.heap.push (freshSet led)).IsList l items := by
      obtain ⟨o, ho, r⟩ := hl
      exact ⟨o, Heap.get?_push_of_some _ ho, r⟩
    have hls : l < s.heap.objs.size := by
      obtain ⟨o, ho, _⟩ := hl
      exact Heap.lt_size ho
    refine wpAny_pyIter_list hl1 ?_
    have hz : (s.heap.push (freshSet led)).objs.size = s.heap.objs.size + 1 := Heap.size_push ..
    have hne : l ≠ (s.heap.push (freshSet led)).objs.size := by
      rw [hz]
      exact Nat.ne_of_lt (Nat.lt_succ_of_lt hls)
    have hlen : xs.length = items.size := by
      have := hi.length
      rw [List.length_map, Array.length_toList] at this
      exact this
    have W := ((Walks.list (prog := prog) (w := w) (A := A.in1) hh _ l hne items).toS)
    rw [← hlen] at W
    refine k _ _ _ _ (fun a b => b = a) _ _ (fun _ => rfl) (fun _ _ e => e) W ?_ ?_ (fun b o e => Heap.get?_push_of_some _ e) ?_ ?_ ⟨rfl, rfl, rfl⟩
    · exact ⟨⟨_, Heap.get?_push_size _ rfl, rfl, rfl⟩, hl1.push _⟩
    · rw [hz]
      simp only [List.mem_cons, List.not_mem_nil, or_false, not_or]
      exact ⟨Nat.ne_of_lt (Nat.lt_succ_self _), Nat.ne_of_gt hls⟩
    · intro b hb
      rw [hz] at hb
      rw [List.mem_singleton.mp hb]
      exact Nat.lt_succ_self _
    · intro i v hv
      have hv' : items.toList[i]? = some v := by
        rw [Array.getElem?_toList]
        exact hv
      exact strs_val hi hv'
theorem src_tuple {l : Addr} {items : Array Value} {xs : List Str} (hl : s.heap.IsTuple l items) (hi : Vals (xs.map V.str) items.toList) : SetSrc prog w "tuple" l xs s where
  sub1 := PySem.F.sub_tuple_set
  sub2 := PySem.F.sub_tuple_frozenset
  nd := by decide
  ob := by
    obtain ⟨o, ho, hc, _⟩ := hl
    exact ⟨o, ho, hc⟩
  it := fun A led Q E hh k => by
    have hl1 : (s.heap.push (freshSet led)).IsTuple l items := by
      obtain ⟨o, ho, r⟩ := hl
      exact ⟨o, Heap.get?_push_of_some _ ho, r⟩
    have hls : l < s.heap.objs.size := by
      obtain ⟨o, ho, _⟩ := hl
      exact Heap.lt_size ho
    refine wpAny_pyIter_tuple hl1 ?_
    have hz : (s.heap.push (freshSet led)).objs.size = s.heap.objs.size + 1 := Heap.size_push ..
    have hne : l ≠ (s.heap.push (freshSet led)).objs.size := by
      rw [hz]
      exact Nat.ne_of_lt (Nat.lt_succ_of_lt hls)
    have hlen : xs.length = items.size := by
      have := hi.length
      rw [List.length_map, Array.length_toList] at this
      exact this
    have W := ((Walks.tuple (prog := prog) (w := w) (A := A.in1) hh _ l hne items).toS)
    rw [← hlen] at W
    refine k _ _ _ _ (fun a b => b = a) _ _ (fun _ => rfl) (fun _ _ e => e) W ?_ ?_ (fun b o e => Heap.get?_push_of_some _ e) ?_ ?_ ⟨rfl, rfl, rfl⟩
    · exact ⟨⟨_, Heap.get?_push_size _ rfl, rfl, rfl⟩, hl1.push _⟩
    · rw [hz]
      simp only [List.mem_cons, List.not_mem_nil, or_false, not_or]
      exact ⟨Nat.ne_of_lt (Nat.lt_succ_self _), Nat.ne_of_gt hls⟩
    · intro b hb
      rw [hz] at hb
      rw [List.mem_singleton.mp hb]
      exact Nat.lt_succ_self _
    · intro i v hv
      have hv' : items.toList[i]? = some v := by
        rw [Array.getElem?_toList]
        exact hv
      exact strs_val hi hv'
end
/-! ### the rules -/
def rSetS (K : PySem.W.Frag) (P : Program) (w : World) : List V → Hp → VK → Prop := fun vs H Q => ∃ l, ∃ xs : List Str, vs = [.ref l] ∧ (SqL K H l (xs.map V.str) ∨ SqT K H l (xs.map V.str)) ∧ xs.length ≤ 1000 ∧
  ∀ p, H p = none → Q (.ref p) (upd H p (SetK P w p (inK (uq xs)) (uq xs).length))
theorem cr_setS {X : Cx} (hc : X.calm = true) : CallR X (.type "set") (rSetS X.K X.prog X.w) := by
  intro pins s σ H vs us Q I r h
  obtain ⟨l, xs, rfl, hq, hl, q⟩ := h
  rw [Vals.ref1 r]
  have hsc : xs.length + 1 < scanBound := by unfold scanBound; omega
  have fin : ∀ (h' : Heap) (tk : Nat), h'.SetOf (mixKind X.prog X.w) s.heap.objs.size (inK (uq xs)) (uq xs).length →
      (∀ b o, b < s.heap.objs.size → s.heap.get? b = some o → h'.get? b = some o) → EP X pins σ Q (.ref s.heap.objs.size) { s with heap := h', toks := tk } := fun h' tk new k =>
    ⟨.ref _, upd H s.heap.objs.size (SetK X.prog X.w s.heap.objs.size (inK (uq xs)) (uq xs).length), I.laid (t' := tk) (fun b u e => k b u (Heap.lt_size e) e) (Nat.le_refl _) (setK_new new), rfl, q _ (I.hok.fresh (Nat.le_refl _))⟩
  rcases hq with hq | hq
  · obtain ⟨its, rv, pl, hz⟩ := I.list hq
    exact set_call (I.ok.hd hc) (src_list pl.isList (by simpa using rv)) hsc fin
  · obtain ⟨its, rv, pl, hz⟩ := I.tuple hq
    exact set_call (I.ok.hd hc) (src_tuple pl (by simpa using rv)) hsc fin
def rLenK (P : Program) (w : World) : List V → Hp → VK → Prop := fun vs H Q => ∃ a S n, vs = [.ref a] ∧ H a = some (SetK P w a S n) ∧ n ≤ 1000000 ∧ Q (.int (n : Nat)) H
theorem call_lenK {X : Cx} : CallR X (.builtin "len") (rLenK X.prog X.w) := by
  intro pins s σ H vs us Q I r h
  obtain ⟨a, S, n, rfl, ha, hn, q⟩ := h
  rw [Vals.ref1 r]
  obtain ⟨o, es, ep, t, ho, hex, hd, _, _, _, hf, hn'⟩ := setK_get I ha
  refine call_len_set ho hex hd hf (by rw [hn']; omega) ⟨.int (n : Nat), H, I.tok _, ⟨_, by rw [hn']⟩, q⟩
section
variable {K : PySem.W.Frag} {b : List Addr} {σ : L2.St} {H H' : Hp} {ta : TE} {P : Program} {w : World}
theorem ed_lenSet {d : PyData} {xs : List Str} (ha : ED K b ta σ H d) (hd : d = .list (xs.map PyData.str) ∨ d = .tuple (xs.map PyData.str)) (hl : xs.length ≤ 1000) :
    ED K b (tCB (rLenK P w) (tCons (tCB (rSetS K P w) (tCons ta tNil)) tNil)) σ H (.int ((uq xs).length : Nat)) := fun H1 x1 Q q =>
  ha H1 x1 _ fun x H2 x2 hx => by
    have hx' := hx.dd
    have fin : ∀ a, (SqL K H2 a (xs.map V.str) ∨ SqT K H2 a (xs.map V.str)) → x = .ref a → tCB (rLenK P w) (tCons (tCB (rSetS K P w) (tCons (tC x) tNil)) tNil) σ H2 Q := fun a hs e => by
      subst e
      refine ⟨a, xs, rfl, hs, hl, fun p hp => ⟨p, _, _, rfl, upd_same, ?_, q _ _ (x2.trans (Ex.new hp)) (.int _)⟩⟩
      have := uq_length_le xs
      omega
    rcases hd with rfl | rfl
    · cases hx' with
      | lst h1 h2 =>
        rw [dps_strs h2] at h1
        exact fin _ (.inl h1) rfl
    · cases hx' with
      | tup h1 _ h2 =>
        rw [dps_strs h2] at h1
        exact fin _ (.inr h1) rfl
end
end Wr

set_option Elab.async false
set_option linter.all false
set_option maxRecDepth 100000
set_option maxHeartbeats 4000000
namespace Wr
open PySem PySem.Spec PyProof.Rows L2 Evl
theorem pe_tyN {X : Cx} {x : Str} {T : String} {pos : Pos} (hg : Gl X x) (hm : X.mg x = none) (hv : bootBuiltins x = some (.type T)) (hn : x ≠ "__name__" := by decide) (hd : (x == ("__debug__" : Str)) = false := by decide) : PE X (.Name x pos) (tC (.ty T)) := pe_bltn hg hm hv rfl hn hd
theorem bt_int : bootBuiltins "int" = some (.type "int") := by decide +kernel
theorem bt_bool : bootBuiltins "bool" = some (.type "bool") := by decide +kernel
theorem bt_str : bootBuiltins "str" = some (.type "str") := by decide +kernel
theorem bt_tuple : bootBuiltins "tuple" = some (.type "tuple") := by decide +kernel
theorem bt_list : bootBuiltins "list" = some (.type "list") := by decide +kernel
theorem bt_set : bootBuiltins "set" = some (.type "set") := by decide +kernel
theorem bb_isinstance : bootBuiltins "isinstance" = some (.builtin "isinstance") := by decide +kernel
theorem bb_len : bootBuiltins "len" = some (.builtin "len") := by decide +kernel
theorem bb_all : bootBuiltins "all" = some (.builtin "all") := by decide +kernel
theorem bb_abs : bootBuiltins "abs" = some (.builtin "abs") := by decide +kernel
theorem bb_max : bootBuiltins "max" = some (.builtin "max") := by decide +kernel
theorem bb_min : bootBuiltins "min" = some (.builtin "min") := by decide +kernel
theorem bb_repr : bootBuiltins "repr" = some (.builtin "repr") := by decide +kernel
theorem bb_sorted : bootBuiltins "sorted" = some (.builtin "sorted") := by decide +kernel
/-- what a def of one, two, three, four data takes -/
theorem one_of {K : PySem.W.Frag} {H : Hp} {vs : List V} {ds : List PyData} (h : DdAll K H vs ds) (hl : ds.length = 1) : ∃ v d, vs = [v] ∧ ds = [d] ∧ Dd K H v d := by
  match ds, hl, h with
  | [d], _, .cons h1 .nil => exact ⟨_, d, rfl, rfl, h1⟩
theorem two_of {K : PySem.W.Frag} {H : Hp} {vs : List V} {ds : List PyData} (h : DdAll K H vs ds) (hl : ds.length = 2) : ∃ v v2 d d2, vs = [v, v2] ∧ ds = [d, d2] ∧ Dd K H v d ∧ Dd K H v2 d2 := by
  match ds, hl, h with
  | [d, d2], _, .cons h1 (.cons h2 .nil) => exact ⟨_, _, d, d2, rfl, rfl, h1, h2⟩
theorem four_of {K : PySem.W.Frag} {H : Hp} {vs : List V} {ds : List PyData} (h : DdAll K H vs ds) (hl : ds.length = 4) : ∃ v v2 v3 v4 d d2 d3 d4, vs = [v, v2, v3, v4] ∧ ds = [d, d2, d3, d4] ∧ Dd K H v d ∧ Dd K H v2 d2 ∧ Dd K H v3 d3 ∧ Dd K H v4 d4 := by
  match ds, hl, h with
  | [d, d2, d3, d4], _, .cons h1 (.cons h2 (.cons h3 (.cons h4 .nil))) => exact ⟨_, _, _, _, d, d2, d3, d4, rfl, rfl, h1, h2, h3, h4⟩
theorem spP_len {K : PySem.W.Frag} {n : Nat} {pre : List PyData → Prop} {f : List PyData → PyData} (hl : ∀ ds, pre ds → ds.length = n) {vs : List V} {H : Hp} {Q : VK} {E : XK} (h : spP K pre f vs H Q E) : vs.length = n := by
  obtain ⟨b, ds, _, hd, hp, _⟩ := h
  rw [dps_len hd, hl ds hp]
/-- data that are small enough to be looked at -/
structure Nice (d : PyData) : Prop where
  sh : SeqAt.shaped d = true
end Wr

set_option Elab.async false
set_option linter.all false
set_option maxRecDepth 100000
set_option maxHeartbeats 4000000
namespace Wr
open PySem PySem.Spec PyProof.Rows L2 Evl
/-! ### data within bounds -/
def okD : Nat → PyData → Bool
  | _, .none => true
  | _, .bool _ => true
  | _, .int i => decide (i.natAbs < 10 ^ 45)
  | _, .str x => PyData.strOk x && decide (x.length ≤ 1000)
  | n + 1, .list ds => decide (ds.length ≤ 1000) && ds.all (okD n)
  | n + 1, .tuple ds => decide (ds.length ≤ 1000) && ds.all (okD n)
  | _, _ => false
theorem lay_all : ∀ {ds : List PyData}, (∀ d ∈ ds, d.canLay0 = true) → PyData.canLayAll0 ds = true
  | [], _ => by simp only [PyData.canLayAll0]
  | d :: ds, h => by
    simp only [PyData.canLayAll0, h d List.mem_cons_self, lay_all fun e he => h e (List.mem_cons_of_mem _ he), Bool.and_self]
theorem depth_all {n : Nat} : ∀ {ds : List PyData}, (∀ d ∈ ds, d.depth ≤ n) → PyData.depthAll ds ≤ n
  | [], _ => by simp only [PyData.depthAll]; exact Nat.zero_le _
  | d :: ds, h => by
    have h1 := h d List.mem_cons_self
    have h2 := depth_all fun e he => h e (List.mem_cons_of_mem _ he)
    simp only [PyData.depthAll]
    omega
theorem show_all : ∀ {ds : List PyData}, (∀ d ∈ ds, d.showable = true) → PyData.showableAll ds = true
  | [], _ => by simp only [PyData.showableAll]
  | d :: ds, h => by
    simp only [PyData.showableAll, h d List.mem_cons_self, show_all fun e he => h e (List.mem_cons_of_mem _ he), Bool.and_self]
theorem log_small {i : Int} (h : i.natAbs < 10 ^ 45) : i.natAbs.log2 < 1920 := by
  by_cases h0 : i.natAbs = 0
  · rw [h0]; decide
  · have h1 : i.natAbs < 2 ^ 1920 := Nat.lt_trans h (by decide)
    exact (Nat.log2_lt h0).mpr h1
theorem ok_facts : ∀ (n : Nat) (d : PyData), okD n d = true → d.canLay0 = true ∧ d.depth ≤ n ∧ d.showable = true
  | _, .none, _ => by refine ⟨by simp only [PyData.canLay0], by simp only [PyData.depth]; exact Nat.zero_le _, by simp only [PyData.showable]⟩
  | _, .bool _, _ => by refine ⟨by simp only [PyData.canLay0], by simp only [PyData.depth]; exact Nat.zero_le _, by simp only [PyData.showable]⟩
  | n, .int i, h => by
    refine ⟨by simp only [PyData.canLay0], by simp only [PyData.depth]; exact Nat.zero_le _, ?_⟩
    have h' : decide (i.natAbs < 10 ^ 45) = true := by
      cases n <;> exact h
    simp only [PyData.showable]
    exact decide_eq_true (log_small (of_decide_eq_true h'))
  | n, .str x, h => by
    have h' : (PyData.strOk x && decide (x.length ≤ 1000)) = true := by cases n <;> exact h
    refine ⟨?_, by simp only [PyData.depth]; exact Nat.zero_le _, by simp only [PyData.showable]⟩
    simp only [PyData.canLay0]
    exact (Bool.and_eq_true_iff.mp h').1
  | 0, .list ds, h => by cases h
  | 0, .tuple ds, h => by cases h
  | n + 1, .list ds, h => by
    have h' := List.all_eq_true.mp (Bool.and_eq_true_iff.mp (show (decide (ds.length ≤ 1000) && ds.all (okD n)) = true from h)).2
    have q := fun d hd => ok_facts n d (h' d hd)
    refine ⟨?_, ?_, ?_⟩
    · simp only [PyData.canLay0]
      exact lay_all fun d hd => (q d hd).1
    · simp only [PyData.depth]
      exact Nat.succ_le_succ (depth_all fun d hd => (q d hd).2.1)
    · simp only [PyData.showable]
      exact show_all fun d hd => (q d hd).2.2
  | n + 1, .tuple ds, h => by
    have h' := List.all_eq_true.mp (Bool.and_eq_true_iff.mp (show (decide (ds.length ≤ 1000) && ds.all (okD n)) = true from h)).2
    have q := fun d hd => ok_facts n d (h' d hd)
    refine ⟨?_, ?_, ?_⟩
    · simp only [PyData.canLay0]
      exact lay_all fun d hd => (q d hd).1
    · simp only [PyData.depth]
      exact Nat.succ_le_succ (depth_all fun d hd => (q d hd).2.1)
    · simp only [PyData.showable]
      exact show_all fun d hd => (q d hd).2.2
  | 0, .dict _, h => by cases h
  | _ + 1, .dict _, h => by cases h
theorem ok_shaped {n : Nat} {d : PyData} (h : okD n d = true) (hn : n ≤ 64 := by omega) : SeqAt.shaped d = true := by
  obtain ⟨h1, h2, _⟩ := ok_facts n d h
  show (d.canLay0 && decide (d.depth ≤ 64)) = true
  rw [h1, decide_eq_true (by omega)]
  rfl
theorem ok_items {n : Nat} {ds : List PyData} (h : okD (n + 1) (.tuple ds) = true) : ∀ d ∈ ds, okD n d = true :=
  List.all_eq_true.mp (Bool.and_eq_true_iff.mp (show (decide (ds.length ≤ 1000) && ds.all (okD n)) = true from h)).2
theorem ok_itemsL {n : Nat} {ds : List PyData} (h : okD (n + 1) (.list ds) = true) : ∀ d ∈ ds, okD n d = true :=
  List.all_eq_true.mp (Bool.and_eq_true_iff.mp (show (decide (ds.length ≤ 1000) && ds.all (okD n)) = true from h)).2
theorem ok_len {n : Nat} {ds : List PyData} (h : okD n (.tuple ds) = true) : ds.length ≤ 1000 := by
  cases n with
  | zero => cases h
  | succ n => exact of_decide_eq_true (Bool.and_eq_true_iff.mp (show (decide (ds.length ≤ 1000) && ds.all (okD n)) = true from h)).1
theorem ok_lenL {n : Nat} {ds : List PyData} (h : okD n (.list ds) = true) : ds.length ≤ 1000 := by
  cases n with
  | zero => cases h
  | succ n => exact of_decide_eq_true (Bool.and_eq_true_iff.mp (show (decide (ds.length ≤ 1000) && ds.all (okD n)) = true from h)).1
theorem ok_str {n : Nat} {x : Str} (h : okD n (.str x) = true) : x.length ≤ 1000 := by
  have h' : (PyData.strOk x && decide (x.length ≤ 1000)) = true := by cases n <;> exact h
  exact of_decide_eq_true (Bool.and_eq_true_iff.mp h').2
theorem ok_mono : ∀ (n : Nat) (d : PyData), okD n d = true → okD (n + 1) d = true
  | _, .none, _ => rfl
  | _, .bool _, _ => rfl
  | n, .int i, h => by cases n <;> exact h
  | n, .str x, h => by cases n <;> exact h
  | 0, .list ds, h => by cases h
  | 0, .tuple ds, h => by cases h
  | n + 1, .list ds, h => by
    have h' : (decide (ds.length ≤ 1000) && ds.all (okD n)) = true := h
    show (decide (ds.length ≤ 1000) && ds.all (okD (n + 1))) = true
    rw [Bool.and_eq_true] at h' ⊢
    exact ⟨h'.1, List.all_eq_true.mpr fun d hd => ok_mono n d (List.all_eq_true.mp h'.2 d hd)⟩
  | n + 1, .tuple ds, h => by
    have h' : (decide (ds.length ≤ 1000) && ds.all (okD n)) = true := h
    show (decide (ds.length ≤ 1000) && ds.all (okD (n + 1))) = true
    rw [Bool.and_eq_true] at h' ⊢
    exact ⟨h'.1, List.all_eq_true.mpr fun d hd => ok_mono n d (List.all_eq_true.mp h'.2 d hd)⟩
  | 0, .dict _, h => by cases h
  | _ + 1, .dict _, h => by cases h
theorem ok_up {n m : Nat} {d : PyData} (h : okD n d = true) (hm : n ≤ m) : okD m d = true := by
  obtain ⟨k, rfl⟩ := Nat.exists_eq_add_of_le hm
  induction k with
  | zero => exact h
  | succ k ih => exact ok_mono _ _ (ih (Nat.le_add_right _ _))
theorem isD_tuple {d : PyData} (h : isD "tuple" d = true) : ∃ ds, d = .tuple ds := by
  cases d <;> first | exact ⟨_, rfl⟩ | (simp [isD, dTy, tyIs] at h)
theorem isD_list {d : PyData} (h : isD "list" d = true) : ∃ ds, d = .list ds := by
  cases d <;> first | exact ⟨_, rfl⟩ | (simp [isD, dTy, tyIs] at h)
theorem isD_str {d : PyData} (h : isD "str" d = true) : ∃ x, d = .str x := by
  cases d <;> first | exact ⟨_, rfl⟩ | (simp [isD, dTy, tyIs] at h)
/-! ### the program's own functions, on data -/
def wholeD (d : PyData) : Bool := isD "int" d && !isD "bool" d
theorem wholeD_int {d : PyData} (h : wholeD d = true) : ∃ i, d = .int i := by
  cases d <;> first | exact ⟨_, rfl⟩ | (simp [wholeD, isD, dTy, tyIs] at h)
def worthD (d : PyData) : Bool := match d with
  | .int i => decide (-1000000000000 ≤ i) && decide (i ≤ 1000000000000)
  | _ => false
def indexD (d : PyData) (n : Int) : Bool := match d with
  | .int i => decide (0 ≤ i) && decide (i < n)
  | _ => false
def nameS (x : Str) : Bool := decide (x.length ≤ 8) && (Txt.isascii x && (Txt.isalpha x && Txt.islower x))
def nameD (d : PyData) : Bool := match d with
  | .str x => nameS x
  | _ => false
def strsOf (ds : List PyData) : List Str := ds.filterMap fun d => match d with
  | .str x => some x
  | _ => none
def unlikeS (xs : List Str) : Bool := decide ((uq xs).length = xs.length)
def namesD (d : PyData) : Bool := match d with
  | .tuple ds => decide (ds.length ≤ 3) && (ds.all nameD && unlikeS (strsOf ds))
  | _ => false
def headedD (d : PyData) : Bool := match d with
  | .tuple [a, c, _] => nameD a && namesD c
  | _ => false
def fst (d : PyData) : PyData := match d with
  | .tuple (a :: _) => a
  | _ => .none
def thd (d : PyData) : PyData := match d with
  | .tuple (_ :: _ :: a :: _) => a
  | _ => .none
def headedAll (d : PyData) (most : Int) : Bool := match d with
  | .tuple ds => (decide (1 ≤ ds.length) && decide ((ds.length : Int) ≤ most)) && (ds.all headedD && unlikeS (strsOf (ds.map fst)))
  | _ => false
def loneW : List Str := ["add", "less", "times", "over", "same", "below", "twin", "swap", "away", "say", "back", "throw", "done", "lead", "turn"]
def nameW : List Str := ["get", "set", "look", "change"]
def rowW : List Str := ["go", "if", "try"]
def rowD (d : PyData) (at_ many : Int) (called : List Str) : Bool := match d with
  | .tuple [a] => inD a (loneW.map .str)
  | .tuple [a, c] =>
    if PyData.eqv a (.str "put") = true then worthD c
    else if inD a (nameW.map .str) = true then nameD c
    else if PyData.eqv a (.str "call") = true then inD c (called.map .str)
    else inD a (rowW.map .str) && (indexD c many && !(PyData.eqv a (.str "try") && PyData.eqv c (.int (at_ + 1))))
  | _ => false
def rowsD (d : PyData) (called : List Str) : Bool := match d with
  | .tuple ds => (decide (1 ≤ ds.length) && decide (ds.length ≤ 60)) && ((List.range ds.length).all fun i => rowD (ds.getD i .none) i ds.length called)
  | _ => false
def progD (d : PyData) : Bool := match d with
  | .tuple ds => headedAll (.tuple ds) 8 && ds.all fun p => rowsD (thd p) (strsOf (ds.map fst))
  | _ => false
end Wr

set_option Elab.async false
set_option linter.all false
set_option maxRecDepth 100000
set_option maxHeartbeats 4000000
namespace Wr
open PySem PySem.Spec PyProof.Rows L2 Evl
section
variable {K : PySem.W.Frag} {b : List Addr} {σ : L2.St} {H H' : Hp} {ta te : TE} {tt : TT} {d : PyData} {ds : List PyData}
theorem et_n {c : Bool} (h : EvT tt σ H c) : EvT (tNot tt) σ H (!c) := fun H1 x Q q => h H1 x _ fun H2 x2 => q H2 x2
theorem ed_m0 {C : Str → Prop} {g : Str → V} {x : Str} {z : PyData} (ha : ED K b ta σ H (.str x)) (hc : C x) (hz : ∀ H', Dq K b H' (g x) z) : ED K b (tBM0 K "str" (fun x xs H Q => ∃ a, x = .str a ∧ xs = [] ∧ C a ∧ Q (g a) H) ta) σ H z := fun H1 x1 Q q =>
  ha H1 x1 _ fun v H2 x2 hv => by
    cases hv
    exact ⟨rfl, x, rfl, rfl, hc, q _ H2 x2 (hz _)⟩
end
theorem pe_gI {X : Cx} {x : Str} {i : Int} {t : Tok} {pos : Pos} (hm : X.mg x = some (.int i t)) (hg : Gl X x := by rfl) (hd : (x == ("__debug__" : Str)) = false := by decide) : PE X (.Name x pos) (tC (.int i)) := pe_glob hg hm ⟨t, rfl⟩ hd
theorem pe_gR {X : Cx} {x : Str} {a : Addr} {pos : Pos} (hm : X.mg x = some (.ref a)) (hg : Gl X x := by rfl) (hd : (x == ("__debug__" : Str)) = false := by decide) : PE X (.Name x pos) (tC (.ref a)) := pe_glob hg hm rfl hd
/-- the built-ins that the text uses are still the built-ins -/
structure Blt (mg : Str → Option Value) : Prop where
  isi : mg "isinstance" = none
  len : mg "len" = none
  all : mg "all" = none
  enum : mg "enumerate" = none
  set : mg "set" = none
  int : mg "int" = none
  bool : mg "bool" = none
  str : mg "str" = none
  tuple : mg "tuple" = none
  list : mg "list" = none
  range : mg "range" = none
/-- a def of the text -/
structure Def (K : PySem.W.Frag) (mg : Str → Option Value) (x : Str) (st : Stmt) (ps : List Str) (f : Addr) (fd : FuncData) : Prop where
  F : Fun K x x st f fd
  b : Binds K fd ps []
  m : mg x = some (.ref f)
theorem pe_cd {X : Cx} {x : Str} {st : Stmt} {k : Nat} {ps : List Str} {sp : Sp} {f : Addr} {fd : FuncData} {p pos : Pos} {e : Expr} {es : List Expr} {t : TA} (D : Def X.K X.mg x st ps f fd) (G : FnOk X.prog X.w X.K X.mg X.base CX0 k f fd ps sp) (hr : Room k X.A) (ha : PA X (e :: es) t)
    (hg : Gl X x := by rfl) (hdb : (x == ("__debug__" : Str)) = false := by decide) (he : starEach (e :: es) X.env = (false, eval e X.env) :: starEach es X.env := by rfl) (hpl : (backTo pos (starEach es X.env)).any (·.1) = false := by rfl) :
    PE X (.Call (.Name x p) (e :: es) [] pos) (tCall sp [] E0 t) := pe_call G hr hg D.m D.F.kp D.b .nil pass0 ha hdb he hpl
def topS (i : Nat) : Stmt := PySem.Challenge.pw_watchedrun_k41_hooks_known.main.body.getD i (.Pass ⟨0, 0, 0, 0⟩)
abbrev s_is_whole : Stmt := topS 4
abbrev s_is_worth : Stmt := topS 5
abbrev s_is_index : Stmt := topS 6
abbrev s_is_name : Stmt := topS 7
abbrev s_are_names : Stmt := topS 8
abbrev s_are_unlike : Stmt := topS 9
abbrev s_is_headed : Stmt := topS 10
abbrev s_are_headed : Stmt := topS 11
theorem sc_is_whole : FnScope ["thing"] ["thing"] (defScope s_is_whole) := ⟨rfl, rfl, rfl, by decide +kernel, rfl, by decide +kernel, by decide +kernel⟩
theorem sc_is_worth : FnScope ["thing"] ["thing"] (defScope s_is_worth) := ⟨rfl, rfl, rfl, by decide +kernel, rfl, by decide +kernel, by decide +kernel⟩
theorem sc_is_index : FnScope ["thing", "many"] ["thing", "many"] (defScope s_is_index) := ⟨rfl, rfl, rfl, by decide +kernel, rfl, by decide +kernel, by decide +kernel⟩
theorem sc_is_name : FnScope ["thing"] ["thing"] (defScope s_is_name) := ⟨rfl, rfl, rfl, by decide +kernel, rfl, by decide +kernel, by decide +kernel⟩
theorem sc_are_names : FnScope ["thing", "name"] ["thing"] (defScope s_are_names) := ⟨rfl, rfl, rfl, by decide +kernel, rfl, by decide +kernel, by decide +kernel⟩
theorem sc_are_unlike : FnScope ["names"] ["names"] (defScope s_are_unlike) := ⟨rfl, rfl, rfl, by decide +kernel, rfl, by decide +kernel, by decide +kernel⟩
theorem sc_is_headed : FnScope ["thing"] ["thing"] (defScope s_is_headed) := ⟨rfl, rfl, rfl, by decide +kernel, rfl, by decide +kernel, by decide +kernel⟩
theorem sc_are_headed : FnScope ["thing", "most", "one"] ["thing", "most"] (defScope s_are_headed) := ⟨rfl, rfl, rfl, by decide +kernel, rfl, by decide +kernel, by decide +kernel⟩
/-- one datum, a truth -/
def F1 (g : PyData → Bool) (ds : List PyData) : PyData := match ds with
  | [d] => .bool (g d)
  | _ => .none
def F2 (g : PyData → PyData → Bool) (ds : List PyData) : PyData := match ds with
  | [d, e] => .bool (g d e)
  | _ => .none
def intOf (d : PyData) : Int := match d with
  | .int i => i
  | _ => 0
section
variable {P : Program} {w : World} {K : PySem.W.Frag} {mg : Str → Option Value} {base : Heap} {f g g2 g3 : Addr} {fd gd gd2 gd3 : FuncData}
theorem ok_is_whole (D : Def K mg "is_whole" s_is_whole ["thing"] f fd) (B : Blt mg) : FnOk P w K mg base CX0 1 f fd ["thing"] (spP K (fun ds => ds.length = 1) (F1 wholeD)) := by
  refine D.F.ok sc_is_whole (fun vs H Q E h => spP_len (fun _ h => h) h) (fun cdv A outer s H vs Q E hr h => ?_)
  obtain ⟨b, ds, kn, hd, hp, q⟩ := h
  obtain ⟨v, d, rfl, rfl, h1⟩ := one_of hd hp
  refine ⟨_, pss_one (ps_ret (pe_and (pe_callB call_isi rfl B.isi bb_isinstance (pa_cons (pv 0) (pa_cons (pe_tyN rfl B.int bt_int) pa_nil)))
    (pe_one (pe_not (pe_callB call_isi rfl B.isi bb_isinstance (pa_cons (pv 0) (pa_cons (pe_tyN rfl B.bool bt_bool) pa_nil))))))), ?_⟩
  exact SR.fin (sr_ret (ed_andB (ed_isi (.inl rfl) (ed_var rfl h1)) fun _ => ed_not (ed_isi (.inr (.inl rfl)) (ed_var rfl h1)))) q
theorem ok_is_worth (D : Def K mg "is_worth" s_is_worth ["thing"] f fd) (D1 : Def K mg "is_whole" s_is_whole ["thing"] g gd) (B : Blt mg) {t : Tok} (mW : mg "MOST_WORTH" = some (.int 1000000000000 t)) :
    FnOk P w K mg base CX0 2 f fd ["thing"] (spP K (fun ds => ds.length = 1) (F1 worthD)) := by
  refine D.F.ok sc_is_worth (fun vs H Q E h => spP_len (fun _ h => h) h) (fun cdv A outer s H vs Q E hr h => ?_)
  obtain ⟨b, ds, kn, hd, hp, q⟩ := h
  obtain ⟨v, d, rfl, rfl, h1⟩ := one_of hd hp
  refine ⟨_, pss_one (ps_ret (pe_and (pe_cd D1 (ok_is_whole D1 B) hr (pa_cons (pv 0) pa_nil))
    (pe_one (pe_chain op_le op_le (pe_un un_neg (pe_gI mW)) (pv 0) (pe_gI mW))))), ?_⟩
  cases hw : wholeD d with
  | false =>
    refine SR.fin (sr_ret ((ed_and (d := .none) (c := wholeD d) (ed_call kn (ea_cons (ed_var rfl h1) ea_nil) (by rfl)) fun h => ?_).to ?_)) q
    · rw [hw] at h; cases h
    · rw [hw]
      have : worthD d = false := by
        cases d <;> first | rfl | (simp [wholeD, isD, dTy, tyIs] at hw)
      show PyData.bool false = .bool (worthD d)
      rw [this]
  | true =>
    obtain ⟨i, rfl⟩ := wholeD_int hw
    refine SR.fin (sr_ret ((ed_andB (c := wholeD (.int i)) (ed_call kn (ea_cons (ed_var rfl h1) ea_nil) (by rfl)) fun _ => ed_chain (ed_neg (ed_c (.int _))) (ed_var rfl h1) (ed_c (.int _))).to ?_)) q
    rw [hw]
    rfl
theorem ok_is_index (D : Def K mg "is_index" s_is_index ["thing", "many"] f fd) (D1 : Def K mg "is_whole" s_is_whole ["thing"] g gd) (B : Blt mg) :
    FnOk P w K mg base CX0 2 f fd ["thing", "many"] (spP K (fun ds => ds.length = 2 ∧ ∀ d n, ds = [d, n] → ∃ i, n = .int i) (F2 fun d n => indexD d (intOf n))) := by
  refine D.F.ok sc_is_index (fun vs H Q E h => spP_len (fun _ h => h.1) h) (fun cdv A outer s H vs Q E hr h => ?_)
  obtain ⟨b, ds, kn, hd, ⟨hp, hp2⟩, q⟩ := h
  obtain ⟨v, v2, d, n, rfl, rfl, h1, h2⟩ := two_of hd hp
  obtain ⟨m, rfl⟩ := hp2 d n rfl
  refine ⟨_, pss_one (ps_ret (pe_and (pe_cd D1 (ok_is_whole D1 B) hr (pa_cons (pv 0) pa_nil))
    (pe_one (pe_chain op_le op_lt pe_int (pv 0) (pv 1))))), ?_⟩
  cases hw : wholeD d with
  | false =>
    refine SR.fin (sr_ret ((ed_and (d := .none) (c := wholeD d) (ed_call kn (ea_cons (ed_var rfl h1) ea_nil) (by rfl)) fun h => ?_).to ?_)) q
    · rw [hw] at h; cases h
    · rw [hw]
      have : indexD d (intOf (.int m)) = false := by
        cases d <;> first | rfl | (simp [wholeD, isD, dTy, tyIs] at hw)
      show PyData.bool false = .bool (indexD d (intOf (.int m)))
      rw [this]
  | true =>
    obtain ⟨i, rfl⟩ := wholeD_int hw
    refine SR.fin (sr_ret ((ed_andB (c := wholeD (.int i)) (ed_call kn (ea_cons (ed_var rfl h1) ea_nil) (by rfl)) fun _ => ed_chain ed_int (ed_var rfl h1) (ed_var rfl h2)).to ?_)) q
    rw [hw]
    rfl
theorem ok_is_name (D : Def K mg "is_name" s_is_name ["thing"] f fd) (B : Blt mg) {t : Tok} (mL : mg "MOST_LETTERS" = some (.int 8 t)) :
    FnOk P w K mg base CX0 1 f fd ["thing"] (spP K (fun ds => ds.length = 1 ∧ ∀ d, ds = [d] → okD 30 d = true) (F1 nameD)) := by
  refine D.F.ok sc_is_name (fun vs H Q E h => spP_len (fun _ h => h.1) h) (fun cdv A outer s H vs Q E hr h => ?_)
  obtain ⟨b, ds, kn, hd, ⟨hp, hok⟩, q⟩ := h
  obtain ⟨v, d, rfl, rfl, h1⟩ := one_of hd hp
  have hok := hok d rfl
  refine ⟨_, pss_cons (ps_if (PW.pt (pw_or (pt_not (pt_val (pe_callB call_isi rfl B.isi bb_isinstance (pa_cons (pv 0) (pa_cons (pe_tyN rfl B.str bt_str) pa_nil)))))
      (pw_or1 (pt_cmpR op_gt (pe_callB call_lenD1 rfl B.len bb_len (pa_cons (pv 0) pa_nil)) (pe_gI mL) (nomark _))))) (pss_one (ps_ret pe_bl)) pss_nil)
    (pss_one (ps_ret (pe_and (pe_bm0 PySem.F.plainAttrs_str PySem.F.slot_str_isascii PySem.F.type_str_isascii mt_isascii (pv 0))
      (pe_and (pe_bm0 PySem.F.plainAttrs_str PySem.F.slot_str_isalpha PySem.F.type_str_isalpha mt_isalpha (pv 0))
      (pe_one (pe_bm0 PySem.F.plainAttrs_str PySem.F.slot_str_islower PySem.F.type_str_islower mt_islower (pv 0))))))), ?_⟩
  have t1 := et_n (et_b (ed_isi (K := K) (b := b) (σ := start ["thing"] [v]) (H := H) (T := "str") (.inr (.inr (.inl rfl))) (ed_var (i := 0) rfl h1)))
  cases hs : isD "str" d with
  | false =>
    rw [hs] at t1
    refine SR.fin ((sr_if (e := .none) (et_or (b := false) t1 fun h => nomatch h) (fun _ => sr_ret ed_bl) fun h => nomatch h).to ?_) q
    have : nameD d = false := by
      cases d <;> first | rfl | (simp [isD, dTy, tyIs] at hs)
    show PyData.bool false = .bool (nameD d)
    rw [this]
  | true =>
    obtain ⟨x, rfl⟩ := isD_str hs
    have hl := ok_str hok
    rw [hs] at t1
    refine SR.fin ((sr_if (et_or t1 fun _ => et_t (ed_gt (ed_len (ed_var rfl h1) (.inl hs) fun y e => by cases e; exact Nat.le_trans hl (by decide)) (ed_c (.int _)))) (fun _ => sr_ret ed_bl)
      fun _ => sr_ret (ed_andB (ed_m0 (ed_var rfl h1) trivial fun _ => .bl _) fun _ => ed_andB (ed_m0 (ed_var rfl h1) trivial fun _ => .bl _) fun _ => ed_m0 (ed_var rfl h1) trivial fun _ => .bl _)).to ?_) q
    show _ = PyData.bool (nameS x)
    unfold nameS
    by_cases h8 : x.length ≤ 8
    · have e1 : decide ((8 : Int) < (lenD (.str x) : Nat)) = false := decide_eq_false (by show ¬ (8 : Int) < (x.length : Nat); omega)
      rw [e1, decide_eq_true h8]
      rfl
    · have e1 : decide ((8 : Int) < (lenD (.str x) : Nat)) = true := decide_eq_true (by show (8 : Int) < (x.length : Nat); omega)
      rw [e1, decide_eq_false h8]
      rfl
end
end Wr

set_option Elab.async false
set_option linter.all false
set_option maxRecDepth 100000
set_option maxHeartbeats 4000000
namespace Wr
open PySem PySem.Spec PyProof.Rows L2 Evl
theorem hu64 {A : Around} {k : Nat} (hr : Room k A) : A.units + 64 < cLine := hr.units
theorem hu65 {A : Around} {k : Nat} (hr : Room k A) : A.units + 65 < cLine := by have := hr.un; omega
section
variable {K : PySem.W.Frag} {b : List Addr} {σ : L2.St} {H H' : Hp} {ta te : TE} {tt : TT} {d : PyData} {ds : List PyData}
theorem all_map {α : Type} (xs : List α) (g : α → Bool) : (xs.map g).all id = xs.all g := by
  rw [List.all_map]
  rfl
theorem ed_allT {k : Nat} {g : PyData → Bool} (kn : Kn b H) (ha : ED K b ta σ H (.tuple ds)) (hl : ds.length ≤ 1000)
    (he : ∀ d v H3, d ∈ ds → Ex H H3 → Dq K b H3 v d → ED K b te ((wipe σ [k]).set k (some v)) H3 (.bool (g d))) :
    ED K b (tCB (rAll K) (tCons (tLc (iTup K ta) (gName k) tYes te [k]) tNil)) σ H (.bool (ds.all g)) := by
  have h := ed_lcT1 (K := K) (b := b) (k := k) (f := fun d => .bool (g d)) kn ha (Nat.lt_of_le_of_lt hl (by decide)) he fun _ _ => rfl
  have e : ds.map (fun d => PyData.bool (g d)) = (ds.map g).map PyData.bool := by rw [List.map_map]; rfl
  exact (ed_all (h.to (by rw [e]))).to (by rw [all_map])
theorem eqv_int (i j : Int) : PyData.eqv (.int i) (.int j) = (i == j) := by simp only [PyData.eqv]
theorem sh_int (i : Int) : SeqAt.shaped (.int i) = true := by
  show ((PyData.int i).canLay0 && decide ((PyData.int i).depth ≤ 64)) = true
  simp only [PyData.canLay0, PyData.depth]
  rfl
theorem sh_bool (i : Bool) : SeqAt.shaped (.bool i) = true := by
  show ((PyData.bool i).canLay0 && decide ((PyData.bool i).depth ≤ 64)) = true
  simp only [PyData.canLay0, PyData.depth]
  rfl
theorem sh_none : SeqAt.shaped .none = true := by
  show (PyData.none.canLay0 && decide (PyData.none.depth ≤ 64)) = true
  simp only [PyData.canLay0, PyData.depth]
  rfl
theorem strsOf_map (xs : List Str) : strsOf (xs.map PyData.str) = xs := by
  induction xs with
  | nil => rfl
  | cons x r ih =>
    show (x :: strsOf (r.map PyData.str)) = x :: r
    rw [ih]
theorem map_strsOf : ∀ {ds : List PyData}, ds.all (isD "str") = true → (strsOf ds).map PyData.str = ds
  | [], _ => rfl
  | d :: ds, h => by
    rw [List.all_cons, Bool.and_eq_true] at h
    obtain ⟨x, rfl⟩ := isD_str h.1
    show PyData.str x :: (strsOf ds).map PyData.str = .str x :: ds
    rw [map_strsOf h.2]
theorem nameD_str {d : PyData} (h : nameD d = true) : isD "str" d = true := by
  cases d <;> first | rfl | cases h
theorem names_strs {ds : List PyData} (h : ds.all nameD = true) : ds.all (isD "str") = true :=
  List.all_eq_true.mpr fun d hd => nameD_str (List.all_eq_true.mp h d hd)
theorem strsOf_len {ds : List PyData} : (strsOf ds).length ≤ ds.length := List.length_filterMap_le _ _
end
def unlikeD (d : PyData) : Bool := match d with
  | .tuple ds => unlikeS (strsOf ds)
  | .list ds => unlikeS (strsOf ds)
  | _ => false
def StrSeq (d : PyData) : Prop := ∃ xs : List Str, xs.length ≤ 1000 ∧ (d = .list (xs.map PyData.str) ∨ d = .tuple (xs.map PyData.str))
section
variable {P : Program} {w : World} {K : PySem.W.Frag} {mg : Str → Option Value} {base : Heap} {f g g2 g3 : Addr} {fd gd gd2 gd3 : FuncData}
theorem ok_are_unlike (D : Def K mg "are_unlike" s_are_unlike ["names"] f fd) (B : Blt mg) :
    FnOk P w K mg base CX0 1 f fd ["names"] (spP K (fun ds => ds.length = 1 ∧ ∀ d, ds = [d] → StrSeq d) (F1 unlikeD)) := by
  refine D.F.ok sc_are_unlike (fun vs H Q E h => spP_len (fun _ h => h.1) h) (fun cdv A outer s H vs Q E hr h => ?_)
  obtain ⟨b, ds, kn, hd, ⟨hp, hp2⟩, q⟩ := h
  obtain ⟨v, d, rfl, rfl, h1⟩ := one_of hd hp
  obtain ⟨xs, hl, hx⟩ := hp2 d rfl
  refine ⟨_, pss_one (ps_ret (pe_cmpR (op_eqD (hu64 hr)) (pe_callB call_lenK rfl B.len bb_len (pa_cons (pe_callTy (cr_setS rfl) rfl B.set bt_set (pa_cons (pv 0) pa_nil)) pa_nil))
    (pe_callB call_lenD1 rfl B.len bb_len (pa_cons (pv 0) pa_nil)) (nomark _))), ?_⟩
  have hk : isD "str" d = true ∨ isD "list" d = true ∨ isD "tuple" d = true := by
    rcases hx with rfl | rfl
    · exact .inr (.inl rfl)
    · exact .inr (.inr rfl)
  have hn : ∀ x, d = .str x → x.length ≤ sizeLine := by
    rcases hx with rfl | rfl <;> intro x e <;> cases e
  refine SR.fin (sr_ret ((ed_eq (ed_lenSet (ed_var rfl h1) hx hl) (ed_len (ed_var rfl h1) hk hn) (sh_int _) (sh_int _)).to ?_)) q
  have e1 : lenD d = xs.length := by
    rcases hx with rfl | rfl <;> exact List.length_map _
  have e2 : unlikeD d = unlikeS xs := by
    rcases hx with rfl | rfl <;> (show unlikeS (strsOf (xs.map PyData.str)) = _; rw [strsOf_map])
  show _ = PyData.bool (unlikeD d)
  rw [e1, e2, eqv_int]
  unfold unlikeS
  by_cases h : (uq xs).length = xs.length
  · rw [h, decide_eq_true rfl, beq_self_eq_true]
  · have h' : ((uq xs).length : Int) ≠ (xs.length : Int) := by omega
    rw [decide_eq_false h, beq_eq_false_iff_ne.mpr h']
theorem ok_are_names (D : Def K mg "are_names" s_are_names ["thing"] f fd) (D1 : Def K mg "is_name" s_is_name ["thing"] g gd) (D2 : Def K mg "are_unlike" s_are_unlike ["names"] g2 gd2) (B : Blt mg) {t t2 : Tok} (mL : mg "MOST_LETTERS" = some (.int 8 t)) (mN : mg "MOST_NAMES" = some (.int 3 t2)) :
    FnOk P w K mg base CX0 2 f fd ["thing"] (spP K (fun ds => ds.length = 1 ∧ ∀ d, ds = [d] → okD 30 d = true) (F1 namesD)) := by
  refine D.F.ok sc_are_names (fun vs H Q E h => spP_len (fun _ h => h.1) h) (fun cdv A outer s H vs Q E hr h => ?_)
  obtain ⟨b, ds, kn, hd, ⟨hp, hok⟩, q⟩ := h
  obtain ⟨v, d, rfl, rfl, h1⟩ := one_of hd hp
  have hok := hok d rfl
  refine ⟨_, pss_cons (ps_if (PW.pt (pw_or (pt_not (pt_val (pe_callB call_isi rfl B.isi bb_isinstance (pa_cons (pv 0) (pa_cons (pe_tyN rfl B.tuple bt_tuple) pa_nil)))))
      (pw_or1 (pt_cmpR op_gt (pe_callB call_lenD1 rfl B.len bb_len (pa_cons (pv 0) pa_nil)) (pe_gI mN) (nomark _))))) (pss_one (ps_ret pe_bl)) pss_nil)
    (pss_one (ps_ret (pe_and (pe_callB (cr_all rfl) rfl B.all bb_all (pa_cons
      (pe_lc (own := [("name", 1)]) (g := gName 1) (tt := tYes) rfl sc_are_names.nd (pi_tup (pv 0)) (blkOk_by (N := ["thing", "name"]) (sc := defScope s_are_names) (by decide +kernel)) (fun _ _ _ _ _ => pg_name (i := 1) sc_are_names.nd rfl (Or.inl rfl)) (fun _ _ _ _ _ => pts_nil)
        (fun _ _ _ _ _ => pe_cd D1 (ok_is_name D1 B mL) hr (pa_cons (pv 1) pa_nil))) pa_nil))
      (pe_one (pe_cd D2 (ok_are_unlike D2 B) hr (pa_cons (pv 0) pa_nil)))))), ?_⟩
  have t1 := et_n (et_b (ed_isi (K := K) (b := b) (σ := start ["thing", "name"] [v]) (H := H) (T := "tuple") (.inr (.inr (.inr (.inl rfl)))) (ed_var (i := 0) rfl h1)))
  cases hs : isD "tuple" d with
  | false =>
    rw [hs] at t1
    refine SR.fin ((sr_if (e := .none) (et_or (b := false) t1 fun h => nomatch h) (fun _ => sr_ret ed_bl) fun h => nomatch h).to ?_) q
    have : namesD d = false := by
      cases d <;> first | rfl | (simp [isD, dTy, tyIs] at hs)
    show PyData.bool false = .bool (namesD d)
    rw [this]
  | true =>
    obtain ⟨ds, rfl⟩ := isD_tuple hs
    rw [hs] at t1
    have hlen := ok_len hok
    have tl := et_or t1 fun _ => et_t (ed_gt (K := K) (b := b) (ed_len (ed_var (i := 0) rfl h1) (.inr (.inr hs)) fun y e => by cases e) (ed_c (v := .int 3) (.int 3)))
    refine SR.fin ((sr_if tl (fun _ => sr_ret ed_bl) fun hc => sr_ret (ed_andB (k := unlikeS (strsOf ds)) (ed_allT (g := nameD) kn (ed_var rfl h1) hlen fun e v' H3 he x3 hv => ed_call (kn.up x3) (ea_cons (ed_var rfl hv) ea_nil) (by exact ⟨rfl, fun e' h' => by cases h'; exact ok_up (ok_items (n := 29) hok e he) (by omega)⟩)) fun ha => ?_)).to ?_) q
    · have e1 := map_strsOf (names_strs ha)
      refine (ed_call (K := K) (f := F1 unlikeD) kn (ea_cons (ed_var (i := 0) rfl h1) ea_nil) ?_).to rfl
      refine ⟨rfl, fun e' h' => ?_⟩
      cases h'
      exact ⟨strsOf ds, Nat.le_trans strsOf_len hlen, .inr (by rw [e1])⟩
    · show _ = PyData.bool (decide (ds.length ≤ 3) && (ds.all nameD && unlikeS (strsOf ds)))
      by_cases h3 : ds.length ≤ 3
      · have e1 : decide ((3 : Int) < (lenD (.tuple ds) : Nat)) = false := decide_eq_false (by show ¬ (3 : Int) < (ds.length : Nat); omega)
        rw [e1, decide_eq_true h3]
        rfl
      · have e1 : decide ((3 : Int) < (lenD (.tuple ds) : Nat)) = true := decide_eq_true (by show (3 : Int) < (ds.length : Nat); omega)
        rw [e1, decide_eq_false h3]
        rfl
end
end Wr

set_option Elab.async false
set_option linter.all false
set_option maxRecDepth 100000
set_option maxHeartbeats 4000000
namespace Wr
open PySem PySem.Spec PyProof.Rows L2 Evl
abbrev s_is_program : Stmt := topS 21
abbrev s_are_rows : Stmt := topS 22
abbrev s_is_row : Stmt := topS 23
theorem sc_is_program : FnScope ["thing", "called", "part"] ["thing"] (defScope s_is_program) := ⟨rfl, rfl, rfl, by decide +kernel, rfl, by decide +kernel, by decide +kernel⟩
theorem sc_are_rows : FnScope ["thing", "called", "at", "row"] ["thing", "called"] (defScope s_are_rows) := ⟨rfl, rfl, rfl, by decide +kernel, rfl, by decide +kernel, by decide +kernel⟩
theorem sc_is_row : FnScope ["thing", "at", "many", "called", "word", "told"] ["thing", "at", "many", "called"] (defScope s_is_row) := ⟨rfl, rfl, rfl, by decide +kernel, rfl, by decide +kernel, by decide +kernel⟩
section
variable {K : PySem.W.Frag} {b : List Addr} {σ : L2.St} {H H' : Hp} {ta te : TE} {tt : TT} {ts : TS} {d a c : PyData} {ds : List PyData}
theorem sr_unpack2 {i j : Nat} (h : ED K b te σ H (.tuple [a, c])) (k : ∀ v1 v2 H', Ex H H' → Dq K b H' v1 a → Dq K b H' v2 c → SR K b ts ((σ.set i (some v1)).set j (some v2)) H' d) :
    SR K b (tSeq (tAsg te (gTup K 2 (gCons (gName i) (gCons (gName j) gNil)))) ts) σ H d := fun H1 x1 D q =>
  h H1 x1 _ fun v H2 x2 hv => by
    cases hv with
    | tup h1 _ h2 =>
      cases h2 with
      | cons p1 p2 =>
        cases p2 with
        | cons p3 p4 =>
          cases p4
          exact ⟨_, _, rfl, ex_t hid_le h1, rfl, _, _, rfl, _, _, rfl, rfl, k _ _ H2 (x1.trans x2) p1 p3 H2 (Ex.refl H2) D fun z H4 x4 hz => q _ H4 (x2.trans x4) hz⟩
/-- [.. for i, x in enumerate(tuple)], flat items -/
theorem ed_lcE {k1 k2 : Nat} {f : Nat → PyData → PyData} (kn : Kn b H) (ha : ED K b ta σ H (.tuple ds)) (hl : ds.length < sizeLine)
    (hw : ∀ x y, wipe (((wipe σ [k1, k2]).set k1 x).set k2 y) [k1, k2] = wipe σ [k1, k2])
    (he : ∀ i d v H3, ds[i]? = some d → Ex H H3 → Dq K b H3 v d → ED K b te (((wipe σ [k1, k2]).set k1 (some (.int (i : Nat)))).set k2 (some v)) H3 (f i d)) (hf : ∀ i d, ds[i]? = some d → flatP (f i d) = true) :
    ED K b (tLc (iEnumT K (tCons ta tNil)) (gTup K 2 (gCons (gName k1) (gCons (gName k2) gNil))) tYes te [k1, k2]) σ H (.list ((List.range ds.length).map fun i => f i (ds.getD i .none))) := fun H1 x1 Q q =>
  ha H1 x1 _ fun x H2 x2 hx => by
    cases hx with
    | @tup a xs _ h1 _ h2 =>
      have hlen := dps_len h2
      refine ⟨a, xs, rfl, ex_t hid_le h1, fun D hD => ?_⟩
      refine lc_it walk_enumT (fun i H3 => Ex H2 H3 ∧ H3 D = some (.lst (((List.range i).map fun i => f i (ds.getD i .none)).map vOf))) ⟨Ex.new hD, upd_same⟩ (fun i H3 _ h => ex_t h.1 (ex_t hid_le h1)) ?_ ?_
      · intro i x H3 H3' hi ⟨x3, e3⟩ ⟨T, y1, y2, ex, nT, eH, g1, g2⟩
        subst ex eH
        have e1 : y1 = .int (i : Nat) := (Option.some.inj g1).symm
        subst e1
        obtain ⟨d, gd, dd⟩ := dps_at h2 g2
        have xT : Ex H3 (upd H3 T (.tup [.int (i : Nat), y2])) := Ex.new nT
        refine ⟨T, [.int (i : Nat), y2], rfl, .inl (.inl upd_same), rfl, _, _, rfl, _, _, rfl, rfl, hw _ _, ?_⟩
        refine et_yes (H := upd H3 T (.tup [.int (i : Nat), y2])) _ (Ex.refl _) _ fun H4 x4 => ?_
        rw [if_pos rfl]
        have x3' : Ex H2 H4 := (x3.trans xT).trans x4
        refine he i d y2 _ gd ((x1.trans x2).trans x3') (Dq.up dd x3') _ (Ex.refl _) _ fun y H5 x5 hy => ?_
        have ey := dp_flat hy (hf i d gd)
        have hg : ds.getD i .none = d := by rw [List.getD_eq_getElem?_getD, gd, Option.getD_some]
        refine ⟨_, x5 _ _ (x4 _ _ (xT _ _ e3)), ?_, Ex.mut (x3'.trans x5) hD, ?_⟩
        · rw [List.length_map, List.length_map, List.length_range]
          have : xs.length < sizeLine := by rw [hlen]; exact hl
          omega
        · rw [upd_same, List.range_succ, List.map_append, List.map_append, ey]
          show some (HO.lst (_ ++ [vOf (f i d)])) = some (HO.lst (_ ++ [vOf (f i (ds.getD i .none))]))
          rw [hg]
      · intro H3 ⟨x3, e3⟩
        rw [hlen] at e3
        refine q _ H3 (x2.trans x3) (.lst (.inl (.inl ?_)) (flats_dp fun d hd => ?_))
        · rw [hid_ne ((kn.up (x1.trans x2)).new hD)]
          exact e3
        · obtain ⟨i, hi, rfl⟩ := List.mem_map.mp hd
          have hi' := List.mem_range.mp hi
          have g1 : ds[i]? = some ds[i] := List.getElem?_eq_getElem hi'
          have := hf i _ g1
          simp only [List.getD_eq_getElem?_getD, g1, Option.getD_some]
          exact this
theorem atI0 {α : Type} (x : α) (r : List α) : atI (x :: r) 0 = some x := atI_nat (j := 0) rfl
theorem atI1 {α : Type} (x y : α) (r : List α) : atI (x :: y :: r) 1 = some y := atI_nat (j := 1) rfl
theorem atI2 {α : Type} (x y z : α) (r : List α) : atI (x :: y :: z :: r) 2 = some z := atI_nat (j := 2) rfl
theorem sh_str {x : Str} (h : PyData.strOk x = true) : SeqAt.shaped (.str x) = true := by
  show ((PyData.str x).canLay0 && decide ((PyData.str x).depth ≤ 64)) = true
  simp only [PyData.canLay0, PyData.depth, h]
  rfl
theorem sh_strs {xs : List Str} (h : xs.all PyData.strOk = true) : SeqAt.shaped (.tuple (xs.map .str)) = true ∧ SeqAt.shaped (.list (xs.map .str)) = true := by
  have h1 : PyData.canLayAll0 (xs.map .str) = true := lay_all fun d hd => by
    obtain ⟨x, hx, rfl⟩ := List.mem_map.mp hd
    simp only [PyData.canLay0]
    exact List.all_eq_true.mp h x hx
  have h2 : PyData.depthAll (xs.map .str) ≤ 0 := depth_all fun d hd => by
    obtain ⟨x, hx, rfl⟩ := List.mem_map.mp hd
    simp only [PyData.depth]
    exact Nat.le_refl 0
  constructor
  · show ((PyData.tuple _).canLay0 && decide ((PyData.tuple _).depth ≤ 64)) = true
    simp only [PyData.canLay0, PyData.depth, h1, Bool.true_and]
    exact decide_eq_true (by omega)
  · show ((PyData.list _).canLay0 && decide ((PyData.list _).depth ≤ 64)) = true
    simp only [PyData.canLay0, PyData.depth, h1, Bool.true_and]
    exact decide_eq_true (by omega)
end
section
variable {P : Program} {w : World} {K : PySem.W.Frag} {mg : Str → Option Value} {base : Heap} {f g g2 g3 g4 g5 : Addr} {fd gd gd2 gd3 gd4 gd5 : FuncData}
theorem ok_is_headed (D : Def K mg "is_headed" s_is_headed ["thing"] f fd) (D1 : Def K mg "is_name" s_is_name ["thing"] g gd) (G1 : FnOk P w K mg base CX0 1 g gd ["thing"] (spP K (fun ds => ds.length = 1 ∧ ∀ d, ds = [d] → okD 30 d = true) (F1 nameD)))
    (D2 : Def K mg "are_names" s_are_names ["thing"] g2 gd2) (G2 : FnOk P w K mg base CX0 2 g2 gd2 ["thing"] (spP K (fun ds => ds.length = 1 ∧ ∀ d, ds = [d] → okD 30 d = true) (F1 namesD))) (B : Blt mg) :
    FnOk P w K mg base CX0 3 f fd ["thing"] (spP K (fun ds => ds.length = 1 ∧ ∀ d, ds = [d] → okD 30 d = true) (F1 headedD)) := by
  refine D.F.ok sc_is_headed (fun vs H Q E h => spP_len (fun _ h => h.1) h) (fun cdv A outer s H vs Q E hr h => ?_)
  obtain ⟨b, ds, kn, hd, ⟨hp, hok⟩, q⟩ := h
  obtain ⟨v, d, rfl, rfl, h1⟩ := one_of hd hp
  have hok := hok d rfl
  refine ⟨_, pss_one (ps_ret (pe_and (pe_callB call_isi rfl B.isi bb_isinstance (pa_cons (pv 0) (pa_cons (pe_tyN rfl B.tuple bt_tuple) pa_nil)))
    (pe_and (pe_cmpR (op_eqD (hu64 hr)) (pe_callB call_lenD1 rfl B.len bb_len (pa_cons (pv 0) pa_nil)) pe_int (nomark _))
    (pe_and (pe_cd D1 G1 (hr.mono (by decide)) (pa_cons (pe_ix ix_tup (pv 0) pe_int (fun _ _ => rfl)) pa_nil))
    (pe_one (pe_cd D2 G2 hr (pa_cons (pe_ix ix_tup (pv 0) pe_int (fun _ _ => rfl)) pa_nil))))))), ?_⟩
  have t1 := ed_isi (K := K) (b := b) (σ := start ["thing"] [v]) (H := H) (T := "tuple") (.inr (.inr (.inr (.inl rfl)))) (ed_var (i := 0) rfl h1)
  cases hs : isD "tuple" d with
  | false =>
    rw [hs] at t1
    refine SR.fin (sr_ret ((ed_andB (k := false) t1 fun h => nomatch h).to ?_)) q
    have : headedD d = false := by
      cases d <;> first | rfl | (simp [isD, dTy, tyIs] at hs)
    show PyData.bool false = .bool (headedD d)
    rw [this]
  | true =>
    obtain ⟨ds, rfl⟩ := isD_tuple hs
    rw [hs] at t1
    have t2 := ed_eq (K := K) (b := b) (σ := start ["thing"] [v]) (ed_len (ed_var (i := 0) rfl h1) (.inr (.inr hs)) fun y e => by cases e) (ed_int (i := 3)) (sh_int _) (sh_int _)
    by_cases h3 : ds.length = 3
    · obtain ⟨x, y, z, rfl⟩ : ∃ x y z, ds = [x, y, z] := by
        match ds, h3 with
        | [x, y, z], _ => exact ⟨x, y, z, rfl⟩
      have okx : ∀ e ∈ [x, y, z], okD 30 e = true := fun e he => ok_up (ok_items (n := 29) hok e he) (by omega)
      refine SR.fin (sr_ret ((ed_andB t1 fun _ => ed_andB t2 fun _ => ed_andB (ed_call kn (ea_cons (ed_ixT (ed_var rfl h1) ed_int (atI0 x [y, z])) ea_nil) ⟨rfl, fun e' h' => by cases h'; exact okx x (by simp)⟩)
        fun _ => ed_call kn (ea_cons (ed_ixT (ed_var rfl h1) ed_int (atI1 x y [z])) ea_nil) ⟨rfl, fun e' h' => by cases h'; exact okx y (by simp)⟩).to ?_)) q
      rw [eqv_int]
      rfl
    · have e3 : PyData.eqv (.int (lenD (.tuple ds) : Nat)) (.int 3) = false := by
        rw [eqv_int]
        exact beq_eq_false_iff_ne.mpr (by show ¬ ((ds.length : Nat) : Int) = 3; omega)
      rw [e3] at t2
      refine SR.fin (sr_ret ((ed_andB (k := false) t1 fun _ => ed_andB (k := false) t2 fun h => nomatch h).to ?_)) q
      have : headedD (.tuple ds) = false := by
        match ds, h3 with
        | [], _ => rfl
        | [_], _ => rfl
        | [_, _], _ => rfl
        | [_, _, _], h => exact absurd rfl h
        | _ :: _ :: _ :: _ :: _, _ => rfl
      show PyData.bool false = .bool (headedD _)
      rw [this]
theorem headed_fst {d : PyData} (h : headedD d = true) : ∃ a c e, d = .tuple [a, c, e] ∧ nameD a = true ∧ namesD c = true := by
  unfold headedD at h
  split at h
  · rename_i a c e
    rw [Bool.and_eq_true] at h
    exact ⟨a, c, e, rfl, h.1, h.2⟩
  · cases h
theorem ok_are_headed (D : Def K mg "are_headed" s_are_headed ["thing", "most"] f fd) (D1 : Def K mg "is_headed" s_is_headed ["thing"] g gd) (G1 : FnOk P w K mg base CX0 3 g gd ["thing"] (spP K (fun ds => ds.length = 1 ∧ ∀ d, ds = [d] → okD 30 d = true) (F1 headedD)))
    (D2 : Def K mg "are_unlike" s_are_unlike ["names"] g2 gd2) (B : Blt mg) :
    FnOk P w K mg base CX0 4 f fd ["thing", "most"] (spP K (fun ds => ds.length = 2 ∧ ∀ d n, ds = [d, n] → okD 30 d = true ∧ ∃ i, n = .int i) (F2 fun d n => headedAll d (intOf n))) := by
  refine D.F.ok sc_are_headed (fun vs H Q E h => spP_len (fun _ h => h.1) h) (fun cdv A outer s H vs Q E hr h => ?_)
  obtain ⟨b, ds, kn, hd, ⟨hp, hp2⟩, q⟩ := h
  obtain ⟨v, v2, d, n, rfl, rfl, h1, h2⟩ := two_of hd hp
  obtain ⟨hok, m, rfl⟩ := hp2 d n rfl
  refine ⟨_, pss_cons (ps_if (PW.pt (pw_or (pt_not (pt_val (pe_callB call_isi rfl B.isi bb_isinstance (pa_cons (pv 0) (pa_cons (pe_tyN rfl B.tuple bt_tuple) pa_nil)))))
      (pw_or1 (pt_not (pt_chain op_le op_le pe_int (pe_callB call_lenD1 rfl B.len bb_len (pa_cons (pv 0) pa_nil)) (pv 1)))))) (pss_one (ps_ret pe_bl)) pss_nil)
    (pss_one (ps_ret (pe_and (pe_callB (cr_all rfl) rfl B.all bb_all (pa_cons
      (pe_lc (own := [("one", 2)]) (g := gName 2) (tt := tYes) rfl sc_are_headed.nd (pi_tup (pv 0)) (blkOk_by (N := ["thing", "most", "one"]) (sc := defScope s_are_headed) (by decide +kernel)) (fun _ _ _ _ _ => pg_name (i := 2) sc_are_headed.nd rfl (Or.inl rfl)) (fun _ _ _ _ _ => pts_nil)
        (fun _ _ _ _ _ => pe_cd D1 G1 hr (pa_cons (pv 2) pa_nil))) pa_nil))
      (pe_one (pe_cd D2 (ok_are_unlike D2 B) (hr.mono (by decide)) (pa_cons
        (pe_lc (own := [("one", 2)]) (g := gName 2) (tt := tYes) rfl sc_are_headed.nd (pi_tup (pv 0)) (blkOk_by (N := ["thing", "most", "one"]) (sc := defScope s_are_headed) (by decide +kernel)) (fun _ _ _ _ _ => pg_name (i := 2) sc_are_headed.nd rfl (Or.inl rfl)) (fun _ _ _ _ _ => pts_nil)
          (fun _ _ _ _ _ => pe_ix (r := rIxT K) ix_tup (pv 2) pe_int (fun _ _ => rfl))) pa_nil)))))), ?_⟩
  have t1 := et_n (et_b (ed_isi (K := K) (b := b) (σ := start ["thing", "most", "one"] [v, v2]) (H := H) (T := "tuple") (.inr (.inr (.inr (.inl rfl)))) (ed_var (i := 0) rfl h1)))
  cases hs : isD "tuple" d with
  | false =>
    rw [hs] at t1
    refine SR.fin ((sr_if (e := .none) (et_or (b := false) t1 fun h => nomatch h) (fun _ => sr_ret ed_bl) fun h => nomatch h).to ?_) q
    have : headedAll d (intOf (.int m)) = false := by
      cases d <;> first | rfl | (simp [isD, dTy, tyIs] at hs)
    show PyData.bool false = .bool (headedAll d (intOf (.int m)))
    rw [this]
  | true =>
    obtain ⟨ds, rfl⟩ := isD_tuple hs
    rw [hs] at t1
    have hlen := ok_len hok
    have okx : ∀ e ∈ ds, okD 30 e = true := fun e he => ok_up (ok_items (n := 29) hok e he) (by omega)
    have tl := et_or t1 fun _ => et_n (et_t (ed_chain (K := K) (b := b) (g := fun i j => decide (i ≤ j)) (g' := fun i j => decide (i ≤ j)) (ed_int (i := 1)) (ed_len (ed_var (i := 0) rfl h1) (.inr (.inr hs)) fun y e => by cases e) (ed_var (i := 1) rfl h2)))
    refine SR.fin ((sr_if tl (fun _ => sr_ret ed_bl) fun hc => sr_ret (ed_andB (k := unlikeS (strsOf (ds.map fst))) (ed_allT (g := headedD) kn (ed_var rfl h1) hlen fun e v' H3 he x3 hv => ed_call (kn.up x3) (ea_cons (ed_var rfl hv) ea_nil) (by exact ⟨rfl, fun e' h' => by cases h'; exact okx e he⟩)) fun ha => ?_)).to ?_) q
    · have hh : ∀ e ∈ ds, ∃ a c z, e = .tuple [a, c, z] ∧ nameD a = true ∧ namesD c = true := fun e he => headed_fst (List.all_eq_true.mp ha e he)
      have hst : (ds.map fst).all (isD "str") = true := List.all_eq_true.mpr fun x hx => by
        obtain ⟨e, he, rfl⟩ := List.mem_map.mp hx
        obtain ⟨a, c, z, rfl, h4, _⟩ := hh e he
        exact nameD_str h4
      have e1 := map_strsOf hst
      have lc := ed_lcT1 (K := K) (b := b) (te := tOp (rIxT K) (tVar 2) (tC (.int 0))) (k := 2) (f := fst) kn (ed_var (σ := start ["thing", "most", "one"] [v, v2]) (i := 0) rfl h1) (Nat.lt_of_le_of_lt hlen (by decide)) (fun e v' H3 he x3 hv => by
        obtain ⟨a, c, z, rfl, _, _⟩ := hh e he
        exact ed_ixT (ed_var rfl hv) ed_int (atI0 a [c, z])) (fun e he => by
        obtain ⟨a, c, z, rfl, h4, _⟩ := hh e he
        obtain ⟨x, rfl⟩ := isD_str (nameD_str h4)
        rfl)
      refine (ed_call (K := K) (f := F1 unlikeD) kn (ea_cons lc ea_nil) ?_).to ?_
      · refine ⟨rfl, fun e' h' => ?_⟩
        cases h'
        refine ⟨strsOf (ds.map fst), Nat.le_trans strsOf_len (by rw [List.length_map]; exact hlen), .inl (by rw [e1])⟩
      · rfl
    · show _ = PyData.bool ((decide (1 ≤ ds.length) && decide ((ds.length : Int) ≤ m)) && (ds.all headedD && unlikeS (strsOf (ds.map fst))))
      have e1 : decide ((1 : Int) ≤ (lenD (.tuple ds) : Nat)) = decide (1 ≤ ds.length) := by
        show decide ((1 : Int) ≤ (ds.length : Nat)) = _
        by_cases h : 1 ≤ ds.length
        · rw [decide_eq_true h, decide_eq_true (by omega)]
        · rw [decide_eq_false h, decide_eq_false (by omega)]
      rw [e1]
      show (if (!(decide (1 ≤ ds.length) && decide ((ds.length : Int) ≤ m))) = true then _ else _) = _
      cases (decide (1 ≤ ds.length) && decide ((ds.length : Int) ≤ m)) <;> rfl
end
end Wr

set_option Elab.async false
set_option linter.all false
set_option maxRecDepth 100000
set_option maxHeartbeats 4000000
namespace Wr
open PySem PySem.Spec PyProof.Rows L2 Evl
/-- the text's written tuples -/
structure Words (K : PySem.W.Frag) (mg : Str → Option Value) (aN aR aL : Addr) : Prop where
  mN : mg "NAME_WORDS" = some (.ref aN)
  mR : mg "ROW_WORDS" = some (.ref aR)
  mL : mg "LONE_WORDS" = some (.ref aL)
  kN : ∀ H, SqT K H aN (nameW.map V.str) ∧ TN K H aN
  kR : ∀ H, SqT K H aR (rowW.map V.str) ∧ TN K H aR
  kL : ∀ H, SqT K H aL (loneW.map V.str) ∧ TN K H aL
def rowF (ds : List PyData) : PyData := match ds with
  | [d, i, m, .list cs] => .bool (rowD d (intOf i) (intOf m) (strsOf cs))
  | _ => .none
def RowPre (ds : List PyData) : Prop := ds.length = 4 ∧ ∀ d i m c, ds = [d, i, m, c] → okD 30 d = true ∧ (∃ k, i = .int k) ∧ (∃ k, m = .int k) ∧ ∃ xs : List Str, xs.all PyData.strOk = true ∧ c = .list (xs.map .str)
theorem rowD_two (a c : PyData) (i m : Int) (xs : List Str) : rowD (.tuple [a, c]) i m xs = (if PyData.eqv a (.str "put") = true then worthD c
    else if inD a (nameW.map .str) = true then nameD c
    else if PyData.eqv a (.str "call") = true then inD c (xs.map .str)
    else inD a (rowW.map .str) && (indexD c m && !(PyData.eqv a (.str "try") && PyData.eqv c (.int (i + 1))))) := rfl
theorem strOk_words : (loneW ++ nameW ++ rowW).all PyData.strOk = true := by decide +kernel
theorem sh_lone : SeqAt.shaped (.tuple (loneW.map .str)) = true := (sh_strs (by decide +kernel)).1
theorem sh_nameW : SeqAt.shaped (.tuple (nameW.map .str)) = true := (sh_strs (by decide +kernel)).1
theorem sh_rowW : SeqAt.shaped (.tuple (rowW.map .str)) = true := (sh_strs (by decide +kernel)).1
theorem sh_put : SeqAt.shaped (.str "put") = true := sh_str (by decide +kernel)
theorem sh_call : SeqAt.shaped (.str "call") = true := sh_str (by decide +kernel)
theorem sh_try : SeqAt.shaped (.str "try") = true := sh_str (by decide +kernel)
section
variable {P : Program} {w : World} {K : PySem.W.Frag} {mg : Str → Option Value} {base : Heap} {f g g2 g3 g4 g5 aN aR aL : Addr} {fd gd gd2 gd3 gd4 gd5 : FuncData}
theorem ed_words {b : List Addr} {σ : L2.St} {H : Hp} {a : Addr} {xs : List Str} (h : ∀ H, SqT K H a (xs.map V.str) ∧ TN K H a) : ED K b (tC (.ref a)) σ H (.tuple (xs.map .str)) := ed_c (.tup (h _).1 (h _).2 (strs_dps xs))
theorem ok_is_row (D : Def K mg "is_row" s_is_row ["thing", "at", "many", "called"] f fd) (D1 : Def K mg "is_worth" s_is_worth ["thing"] g gd) (G1 : FnOk P w K mg base CX0 2 g gd ["thing"] (spP K (fun ds => ds.length = 1) (F1 worthD)))
    (D2 : Def K mg "is_name" s_is_name ["thing"] g2 gd2) (G2 : FnOk P w K mg base CX0 1 g2 gd2 ["thing"] (spP K (fun ds => ds.length = 1 ∧ ∀ d, ds = [d] → okD 30 d = true) (F1 nameD)))
    (D3 : Def K mg "is_index" s_is_index ["thing", "many"] g3 gd3) (G3 : FnOk P w K mg base CX0 2 g3 gd3 ["thing", "many"] (spP K (fun ds => ds.length = 2 ∧ ∀ d n, ds = [d, n] → ∃ i, n = .int i) (F2 fun d n => indexD d (intOf n)))) (B : Blt mg) (W : Words K mg aN aR aL) :
    FnOk P w K mg base CX0 3 f fd ["thing", "at", "many", "called"] (spP K RowPre rowF) := by
  refine D.F.ok sc_is_row (fun vs H Q E h => spP_len (fun _ h => h.1) h) (fun cdv A outer s H vs Q E hr h => ?_)
  obtain ⟨b, ds, kn, hd, ⟨hp, hp2⟩, q⟩ := h
  obtain ⟨v, v2, v3, v4, d, d2, d3, d4, rfl, rfl, h1, h2, h3, h4⟩ := four_of hd hp
  obtain ⟨hok, ⟨i, rfl⟩, ⟨m, rfl⟩, xs, hxs, rfl⟩ := hp2 d d2 d3 d4 rfl
  refine ⟨_, pss_cons (ps_if (pt_not (pt_val (pe_callB call_isi rfl B.isi bb_isinstance (pa_cons (pv 0) (pa_cons (pe_tyN rfl B.tuple bt_tuple) pa_nil))))) (pss_one (ps_ret pe_bl)) pss_nil)
    (pss_cons (ps_if (pt_cmpR (op_eqD (hu64 hr)) (pe_callB call_lenD1 rfl B.len bb_len (pa_cons (pv 0) pa_nil)) pe_int (nomark _)) (pss_one (ps_ret (pe_cmpR (op_inT (hu65 hr)) (pe_ix ix_tup (pv 0) pe_int (fun _ _ => rfl)) (pe_gR W.mL) rfl))) pss_nil)
    (pss_cons (ps_if (pt_cmpR (op_neD (hu64 hr)) (pe_callB call_lenD1 rfl B.len bb_len (pa_cons (pv 0) pa_nil)) pe_int (nomark _)) (pss_one (ps_ret pe_bl)) pss_nil)
    (pss_cons (ps_asg (pv 0) (pg_tup rfl (pgs_cons (pg_name (i := 4) sc_is_row.nd rfl (Or.inl rfl)) (pgs_cons (pg_name (i := 5) sc_is_row.nd rfl (Or.inl rfl)) pgs_nil))))
    (pss_cons (ps_if (pt_cmpR (op_eqD (hu64 hr)) (pv 4) pe_str (nomark _)) (pss_one (ps_ret (pe_cd D1 G1 hr (pa_cons (pv 5) pa_nil)))) pss_nil)
    (pss_cons (ps_if (pt_cmpR (op_inT (hu65 hr)) (pv 4) (pe_gR W.mN) rfl) (pss_one (ps_ret (pe_cd D2 G2 (hr.mono (by decide)) (pa_cons (pv 5) pa_nil)))) pss_nil)
    (pss_cons (ps_if (pt_cmpR (op_eqD (hu64 hr)) (pv 4) pe_str (nomark _)) (pss_one (ps_ret (pe_cmpR (op_inD (hu65 hr)) (pv 5) (pv 3) rfl))) pss_nil)
    (pss_one (ps_ret (pe_and (pe_cmpR (op_inT (hu65 hr)) (pv 4) (pe_gR W.mR) rfl) (pe_and (pe_cd D3 G3 hr (pa_cons (pv 5) (pa_cons (pv 2) pa_nil)))
      (pe_one (pe_not (pe_and (pe_cmpR (op_eqD (hu64 hr)) (pv 4) pe_str (nomark _)) (pe_one (pe_cmpR (op_eqD (hu64 hr)) (pv 5) (pe_op op_add (pv 1) pe_int) (nomark _)))))))))))))))), ?_⟩
  have t1 := et_n (et_b (ed_isi (K := K) (b := b) (σ := start ["thing", "at", "many", "called", "word", "told"] [v, v2, v3, v4]) (H := H) (T := "tuple") (.inr (.inr (.inr (.inl rfl)))) (ed_var (i := 0) rfl h1)))
  cases hs : isD "tuple" d with
  | false =>
    rw [hs] at t1
    refine SR.fin ((sr_if (e := .none) t1 (fun _ => sr_ret ed_bl) fun h => nomatch h).to ?_) q
    have : rowD d i m (strsOf (xs.map .str)) = false := by
      cases d <;> first | rfl | (simp [isD, dTy, tyIs] at hs)
    show PyData.bool false = .bool (rowD d i m (strsOf (xs.map .str)))
    rw [this]
  | true =>
    obtain ⟨ds, rfl⟩ := isD_tuple hs
    rw [hs] at t1
    have okx : ∀ e ∈ ds, okD 30 e = true := fun e he => ok_up (ok_items (n := 29) hok e he) (by omega)
    have tl := ed_len (K := K) (b := b) (σ := start ["thing", "at", "many", "called", "word", "told"] [v, v2, v3, v4]) (ed_var (i := 0) rfl h1) (.inr (.inr hs)) fun y e => by cases e
    have t2 := et_t (ed_eq tl (ed_int (i := 1)) (sh_int _) (sh_int _))
    have t3 := et_t (ed_ne tl (ed_int (i := 2)) (sh_int _) (sh_int _))
    rw [eqv_int] at t2 t3
    by_cases hl1 : ds.length = 1
    · obtain ⟨a, rfl⟩ : ∃ a, ds = [a] := by
        match ds, hl1 with
        | [a], _ => exact ⟨a, rfl⟩
      refine SR.fin (((sr_if (d := .none) t1 (fun h => nomatch h) fun _ => sr_if (e := .none) t2 (fun _ => sr_ret (ed_inT (ed_ixT (ed_var rfl h1) ed_int (atI0 a [])) (ed_words W.kL) (ok_shaped (okx a (by simp))) sh_lone)) fun h => nomatch h)).to ?_) q
      rfl
    · have n1 : (((lenD (.tuple ds) : Nat) : Int) == 1) = false := beq_eq_false_iff_ne.mpr (by show ¬ ((ds.length : Nat) : Int) = 1; omega)
      rw [n1] at t2
      by_cases hl2 : ds.length = 2
      · obtain ⟨a, c, rfl⟩ : ∃ a c, ds = [a, c] := by
          match ds, hl2 with
          | [a, c], _ => exact ⟨a, c, rfl⟩
        have sa := ok_shaped (okx a (by simp))
        have sc := ok_shaped (okx c (by simp))
        refine SR.fin (((sr_if (d := .none) t1 (fun h => nomatch h) fun _ => sr_if (d := .none) t2 (fun h => nomatch h) fun _ => sr_if (d := .none) t3 (fun h => nomatch h) fun _ => sr_unpack2 (ed_var rfl h1) fun v5 v6 H' x' p1 p2 =>
          sr_if (et_t (ed_eq (ed_var rfl p1) ed_str sa sh_put)) (fun _ => sr_ret (ed_call (kn.up x') (ea_cons (ed_var rfl p2) ea_nil) (by rfl)))
          fun _ => sr_if (et_t (ed_inT (ed_var rfl p1) (ed_words W.kN) sa sh_nameW)) (fun _ => sr_ret (ed_call (kn.up x') (ea_cons (ed_var rfl p2) ea_nil) (by exact ⟨rfl, fun e' h' => by cases h'; exact okx c (by simp)⟩)))
          fun _ => sr_if (et_t (ed_eq (ed_var rfl p1) ed_str sa sh_call)) (fun _ => sr_ret (ed_inL (ed_var rfl p2) (ed_var rfl (Dq.up h4 x')) sc (sh_strs hxs).2))
          fun _ => sr_ret (ed_andB (ed_inT (ed_var rfl p1) (ed_words W.kR) sa sh_rowW) fun _ => ed_andB (ed_call (kn.up x') (ea_cons (ed_var rfl p2) (ea_cons (ed_var rfl (Dq.up h3 x')) ea_nil)) (by exact ⟨rfl, fun d n h' => by cases h'; exact ⟨m, rfl⟩⟩))
            fun _ => ed_not (ed_andB (ed_eq (ed_var rfl p1) ed_str sa sh_try) fun _ => ed_eq (ed_var rfl p2) (ed_add (ed_var rfl (Dq.up h2 x')) ed_int) sc (sh_int _))))).to ?_) q
        show _ = PyData.bool (rowD (.tuple [a, c]) i m (strsOf (xs.map .str)))
        rw [strsOf_map, rowD_two]
        cases PyData.eqv a (.str "put")
        · cases inD a (nameW.map .str)
          · cases PyData.eqv a (.str "call") <;> rfl
          · rfl
        · rfl
      · have n2 : (((lenD (.tuple ds) : Nat) : Int) == 2) = false := beq_eq_false_iff_ne.mpr (by show ¬ ((ds.length : Nat) : Int) = 2; omega)
        rw [n2] at t3
        refine SR.fin (((sr_if (d := .none) t1 (fun h => nomatch h) fun _ => sr_if (d := .none) t2 (fun h => nomatch h) fun _ => sr_if (e := .none) t3 (fun _ => sr_ret ed_bl) fun h => nomatch h)).to ?_) q
        have : rowD (.tuple ds) i m (strsOf (xs.map .str)) = false := by
          match ds, hl1, hl2 with
          | [], _, _ => rfl
          | [_], h, _ => exact absurd rfl h
          | [_, _], _, h => exact absurd rfl h
          | _ :: _ :: _ :: _, _, _ => rfl
        show PyData.bool false = .bool (rowD _ i m (strsOf (xs.map .str)))
        rw [this]
def RowsPre (ds : List PyData) : Prop := ds.length = 2 ∧ ∀ d c, ds = [d, c] → okD 30 d = true ∧ ∃ xs : List Str, xs.all PyData.strOk = true ∧ c = .list (xs.map .str)
def rowsF (ds : List PyData) : PyData := match ds with
  | [d, .list cs] => .bool (rowsD d (strsOf cs))
  | _ => .none
theorem ok_are_rows (D : Def K mg "are_rows" s_are_rows ["thing", "called"] f fd) (D1 : Def K mg "is_row" s_is_row ["thing", "at", "many", "called"] g gd) (G1 : FnOk P w K mg base CX0 3 g gd ["thing", "at", "many", "called"] (spP K RowPre rowF)) (B : Blt mg) {t : Tok} (mM : mg "MOST_PART_ROWS" = some (.int 60 t)) :
    FnOk P w K mg base CX0 4 f fd ["thing", "called"] (spP K RowsPre rowsF) := by
  refine D.F.ok sc_are_rows (fun vs H Q E h => spP_len (fun _ h => h.1) h) (fun cdv A outer s H vs Q E hr h => ?_)
  obtain ⟨b, ds, kn, hd, ⟨hp, hp2⟩, q⟩ := h
  obtain ⟨v, v2, d, d2, rfl, rfl, h1, h2⟩ := two_of hd hp
  obtain ⟨hok, xs, hxs, rfl⟩ := hp2 d d2 rfl
  refine ⟨_, pss_cons (ps_if (PW.pt (pw_or (pt_not (pt_val (pe_callB call_isi rfl B.isi bb_isinstance (pa_cons (pv 0) (pa_cons (pe_tyN rfl B.tuple bt_tuple) pa_nil)))))
      (pw_or1 (pt_not (pt_chain op_le op_le pe_int (pe_callB call_lenD1 rfl B.len bb_len (pa_cons (pv 0) pa_nil)) (pe_gI mM)))))) (pss_one (ps_ret pe_bl)) pss_nil)
    (pss_one (ps_ret (pe_callB (cr_all rfl) rfl B.all bb_all (pa_cons
      (pe_lc (own := [("at", 2), ("row", 3)]) (g := gTup K 2 (gCons (gName 2) (gCons (gName 3) gNil))) (tt := tYes) rfl sc_are_rows.nd (pi_enumT rfl B.enum (pa_cons (pv 0) pa_nil)) (blkOk_by (N := ["thing", "called", "at", "row"]) (sc := defScope s_are_rows) (by decide +kernel))
        (fun _ _ _ _ _ => pg_tup rfl (pgs_cons (pg_name (i := 2) sc_are_rows.nd rfl (Or.inl rfl)) (pgs_cons (pg_name (i := 3) sc_are_rows.nd rfl (Or.inl rfl)) pgs_nil))) (fun _ _ _ _ _ => pts_nil)
        (fun _ _ _ _ _ => pe_cd D1 G1 hr (pa_cons (pv 3) (pa_cons (pv 2) (pa_cons (pe_callB (r := rLen K) call_lenD1 rfl B.len bb_len (pa_cons (pv 0) pa_nil)) (pa_cons (pv 1) pa_nil)))))) pa_nil)))), ?_⟩
  have t1 := et_n (et_b (ed_isi (K := K) (b := b) (σ := start ["thing", "called", "at", "row"] [v, v2]) (H := H) (T := "tuple") (.inr (.inr (.inr (.inl rfl)))) (ed_var (i := 0) rfl h1)))
  cases hs : isD "tuple" d with
  | false =>
    rw [hs] at t1
    refine SR.fin ((sr_if (e := .none) (et_or (b := false) t1 fun h => nomatch h) (fun _ => sr_ret ed_bl) fun h => nomatch h).to ?_) q
    have : rowsD d (strsOf (xs.map .str)) = false := by
      cases d <;> first | rfl | (simp [isD, dTy, tyIs] at hs)
    show PyData.bool false = .bool (rowsD d (strsOf (xs.map .str)))
    rw [this]
  | true =>
    obtain ⟨ds, rfl⟩ := isD_tuple hs
    rw [hs] at t1
    have hlen := ok_len hok
    have okx : ∀ e ∈ ds, okD 30 e = true := fun e he => ok_up (ok_items (n := 29) hok e he) (by omega)
    have tl := et_or t1 fun _ => et_n (et_t (ed_chain (K := K) (b := b) (g := fun i j => decide (i ≤ j)) (g' := fun i j => decide (i ≤ j)) (ed_int (i := 1)) (ed_len (ed_var (i := 0) rfl h1) (.inr (.inr hs)) fun y e => by cases e) (ed_c (v := .int 60) (.int 60))))
    have lc := ed_lcE (K := K) (b := b) (te := tCall (spP K RowPre rowF) [] E0 (tCons (tVar 3) (tCons (tVar 2) (tCons (tCB (rLen K) (tCons (tVar 0) tNil)) (tCons (tVar 1) tNil))))) (k1 := 2) (k2 := 3) (f := fun i d => .bool (rowD d i ds.length xs)) kn (ed_var (σ := start ["thing", "called", "at", "row"] [v, v2]) (i := 0) rfl h1) (Nat.lt_of_le_of_lt hlen (by decide)) (fun _ _ => rfl)
      (fun i e v' H3 he x3 hv => (ed_call (kn.up x3) (ea_cons (ed_var rfl hv) (ea_cons (ed_var (d := .int (i : Nat)) rfl (.int _)) (ea_cons (ed_len (ed_var rfl (Dq.up h1 x3)) (.inr (.inr hs)) fun y e => by cases e) (ea_cons (ed_var rfl (Dq.up h2 x3)) ea_nil))))
        (by exact ⟨rfl, fun d i m c h' => by cases h'; exact ⟨okx e (List.mem_of_getElem? he), ⟨_, rfl⟩, ⟨_, rfl⟩, xs, hxs, rfl⟩⟩)).to (by
          show PyData.bool (rowD e i ds.length (strsOf (xs.map .str))) = _
          rw [strsOf_map])) (fun _ _ _ => rfl)
    have e0 : ((List.range ds.length).map fun i => PyData.bool (rowD (ds.getD i .none) i ds.length xs)) = ((List.range ds.length).map fun i => rowD (ds.getD i .none) i ds.length xs).map PyData.bool := by
      rw [List.map_map]
      rfl
    refine SR.fin ((sr_if tl (fun _ => sr_ret ed_bl) fun hc => sr_ret (ed_all (lc.to (by rw [e0])))).to ?_) q
    show _ = PyData.bool (rowsD (.tuple ds) (strsOf (xs.map .str)))
    rw [strsOf_map, all_map]
    unfold rowsD
    have e1 : decide ((1 : Int) ≤ (lenD (.tuple ds) : Nat)) = decide (1 ≤ ds.length) := by
      show decide ((1 : Int) ≤ (ds.length : Nat)) = _
      by_cases h : 1 ≤ ds.length
      · rw [decide_eq_true h, decide_eq_true (by omega)]
      · rw [decide_eq_false h, decide_eq_false (by omega)]
    have e2 : decide (((lenD (.tuple ds) : Nat) : Int) ≤ 60) = decide (ds.length ≤ 60) := by
      show decide (((ds.length : Nat) : Int) ≤ 60) = _
      by_cases h : ds.length ≤ 60
      · rw [decide_eq_true h, decide_eq_true (by omega)]
      · rw [decide_eq_false h, decide_eq_false (by omega)]
    rw [e1, e2]
    show (if (!(decide (1 ≤ ds.length) && decide (ds.length ≤ 60))) = true then _ else _) = PyData.bool ((decide (1 ≤ ds.length) && decide (ds.length ≤ 60)) && _)
    cases (decide (1 ≤ ds.length) && decide (ds.length ≤ 60)) <;> rfl
theorem name_strOk {x : Str} (h : nameS x = true) : PyData.strOk x = true := by
  unfold nameS at h
  rw [Bool.and_eq_true, Bool.and_eq_true] at h
  have h2 : x.cps.all (· < 128) = true := h.2.1
  show x.cps.all (· < 0x110000) = true
  rw [Array.all_eq_true] at h2 ⊢
  intro i hi
  have := of_decide_eq_true (h2 i hi)
  exact decide_eq_true (by omega)
def ProgPre (ds : List PyData) : Prop := ds.length = 1 ∧ ∀ d, ds = [d] → okD 30 d = true
theorem ok_is_program (D : Def K mg "is_program" s_is_program ["thing"] f fd) (D1 : Def K mg "are_headed" s_are_headed ["thing", "most"] g gd) (G1 : FnOk P w K mg base CX0 4 g gd ["thing", "most"] (spP K (fun ds => ds.length = 2 ∧ ∀ d n, ds = [d, n] → okD 30 d = true ∧ ∃ i, n = .int i) (F2 fun d n => headedAll d (intOf n))))
    (D2 : Def K mg "are_rows" s_are_rows ["thing", "called"] g2 gd2) (G2 : FnOk P w K mg base CX0 4 g2 gd2 ["thing", "called"] (spP K RowsPre rowsF)) (B : Blt mg) {t : Tok} (mP : mg "MOST_PARTS" = some (.int 8 t)) :
    FnOk P w K mg base CX0 5 f fd ["thing"] (spP K ProgPre (F1 progD)) := by
  refine D.F.ok sc_is_program (fun vs H Q E h => spP_len (fun _ h => h.1) h) (fun cdv A outer s H vs Q E hr h => ?_)
  obtain ⟨b, ds, kn, hd, ⟨hp, hok⟩, q⟩ := h
  obtain ⟨v, d, rfl, rfl, h1⟩ := one_of hd hp
  have hok := hok d rfl
  refine ⟨_, pss_cons (ps_if (pt_not (pt_val (pe_cd D1 G1 hr (pa_cons (pv 0) (pa_cons (pe_gI mP) pa_nil))))) (pss_one (ps_ret pe_bl)) pss_nil)
    (pss_cons (ps_set (i := 1) sc_is_program.nd rfl (Or.inr rfl)
      (pe_lc (own := [("part", 2)]) (g := gName 2) (tt := tYes) rfl sc_is_program.nd (pi_tup (pv 0)) (blkOk_by (N := ["thing", "called", "part"]) (sc := defScope s_is_program) (by decide +kernel)) (fun _ _ _ _ _ => pg_name (i := 2) sc_is_program.nd rfl (Or.inl rfl)) (fun _ _ _ _ _ => pts_nil)
        (fun _ _ _ _ _ => pe_ix (r := rIxT K) ix_tup (pv 2) pe_int (fun _ _ => rfl))))
    (pss_one (ps_ret (pe_callB (cr_all rfl) rfl B.all bb_all (pa_cons
      (pe_lc (own := [("part", 2)]) (g := gName 2) (tt := tYes) rfl sc_is_program.nd (pi_tup (pv 0)) (blkOk_by (N := ["thing", "called", "part"]) (sc := defScope s_is_program) (by decide +kernel)) (fun _ _ _ _ _ => pg_name (i := 2) sc_is_program.nd rfl (Or.inl rfl)) (fun _ _ _ _ _ => pts_nil)
        (fun _ _ _ _ _ => pe_cd D2 G2 hr (pa_cons (pe_ix (r := rIxT K) ix_tup (pv 2) pe_int (fun _ _ => rfl)) (pa_cons (pv 1) pa_nil)))) pa_nil))))), ?_⟩
  have t1 := et_n (et_b ((ed_call (K := K) (b := b) (E := E0) (σ := start ["thing", "called", "part"] [v]) (pre := fun ds => ds.length = 2 ∧ ∀ d n, ds = [d, n] → okD 30 d = true ∧ ∃ i, n = .int i) (f := F2 fun d n => headedAll d (intOf n)) kn (ea_cons (ed_var (i := 0) rfl h1) (ea_cons (ed_c (v := .int 8) (.int 8)) ea_nil)) ⟨rfl, fun d n h' => by cases h'; exact ⟨hok, _, rfl⟩⟩).to (show _ = PyData.bool (headedAll d 8) from rfl)))
  cases hs : headedAll d 8 with
  | false =>
    rw [hs] at t1
    refine SR.fin ((sr_if (e := .none) t1 (fun _ => sr_ret ed_bl) fun h => nomatch h).to ?_) q
    have : progD d = false := by
      cases d <;> first | rfl | (show (headedAll _ 8 && _) = false; rw [hs]; rfl)
    show PyData.bool false = .bool (progD d)
    rw [this]
  | true =>
    rw [hs] at t1
    obtain ⟨ds, rfl⟩ : ∃ ds, d = .tuple ds := by
      cases d <;> first | exact ⟨_, rfl⟩ | cases hs
    have hlen := ok_len hok
    have okx : ∀ e ∈ ds, okD 29 e = true := fun e he => ok_items (n := 29) hok e he
    have ha : ds.all headedD = true := by
      have : ((decide (1 ≤ ds.length) && decide ((ds.length : Int) ≤ 8)) && (ds.all headedD && unlikeS (strsOf (ds.map fst)))) = true := hs
      exact (Bool.and_eq_true_iff.mp (Bool.and_eq_true_iff.mp this).2).1
    have hh : ∀ e ∈ ds, ∃ a c z, e = .tuple [a, c, z] ∧ nameD a = true ∧ namesD c = true := fun e he => headed_fst (List.all_eq_true.mp ha e he)
    have hst : (ds.map fst).all (isD "str") = true := List.all_eq_true.mpr fun x hx => by
      obtain ⟨e, he, rfl⟩ := List.mem_map.mp hx
      obtain ⟨a, c, z, rfl, h4, _⟩ := hh e he
      exact nameD_str h4
    have e1 := map_strsOf hst
    have hso : (strsOf (ds.map fst)).all PyData.strOk = true := List.all_eq_true.mpr fun x hx => by
      have : PyData.str x ∈ ds.map fst := by
        rw [← e1]
        exact List.mem_map.mpr ⟨x, hx, rfl⟩
      obtain ⟨e, he, ex⟩ := List.mem_map.mp this
      obtain ⟨a, c, z, rfl, h4, _⟩ := hh e he
      have ea : a = .str x := ex
      subst ea
      exact name_strOk h4
    refine SR.fin ((sr_if (d := .none) t1 (fun h => nomatch h) fun _ => sr_set (e := .list (ds.map fst)) (ed_lcT1 (f := fst) kn (ed_var rfl h1) (Nat.lt_of_le_of_lt hlen (by decide)) (fun e v' H3 he x3 hv => by
        obtain ⟨a, c, z, rfl, _, _⟩ := hh e he
        exact ed_ixT (ed_var rfl hv) ed_int (atI0 a [c, z])) (fun e he => by
        obtain ⟨a, c, z, rfl, h4, _⟩ := hh e he
        obtain ⟨x, rfl⟩ := isD_str (nameD_str h4)
        rfl)) fun v2 H2 x2 hv2 => sr_ret (ed_allT (g := fun p => rowsD (thd p) (strsOf (ds.map fst))) (kn.up x2) (ed_var rfl (Dq.up h1 x2)) hlen fun e v' H3 he x3 hv => by
          obtain ⟨a, c, z, rfl, _, _⟩ := hh e he
          have okz : okD 28 z = true := ok_items (n := 28) (okx _ he) z (by simp)
          refine (ed_call ((kn.up x2).up x3) (ea_cons (ed_ixT (ed_var rfl hv) ed_int (atI2 a c z [])) (ea_cons (ed_var rfl (Dq.up hv2 x3)) ea_nil)) ?_).to ?_
          · refine ⟨rfl, fun d' c' h' => ?_⟩
            cases h'
            exact ⟨ok_up okz (by omega), strsOf (ds.map fst), hso, by rw [e1]⟩
          · rfl)).to ?_) q
    show PyData.bool _ = PyData.bool (headedAll (.tuple ds) 8 && _)
    rw [hs]
    rfl
end
end Wr

set_option Elab.async false
set_option linter.all false
set_option maxRecDepth 100000
set_option maxHeartbeats 4000000
namespace Wr
open PySem PySem.Spec PyProof.Rows L2 Evl
/-! ### a method of a tuple -/
def tBMT (K : PySem.W.Frag) (r : V → List V → Hp → VK → Prop) (to : TE) (t : TA) : TE := fun σ H Q => to σ H fun x H1 => (∃ a xs, x = .ref a ∧ SqT K H1 a xs ∧ TN K H1 a) ∧ t σ H1 fun xs H2 => r x xs H2 Q
theorem tn_is {X : Cx} {pins : List (Addr × Obj)} {σ : L2.St} {H : Hp} {s : Shared} {a : Addr} (I : Inv X pins σ H s) (h : TN X.K H a) : ∃ o, s.heap.get? a = some o ∧ o.dict = none := by
  rcases h with ⟨o, u, h1, h2⟩ | ⟨o, h1, _, h2⟩
  · exact ⟨o, (I.hok a _ h1).1, h2⟩
  · exact ⟨o, I.kIn a o h1, h2⟩
theorem pe_bmT {X : Cx} {o e : Expr} {es : List Expr} {to : TE} {t : TA} {name : Str} {id : String} {apos cpos : Pos} {r : V → List V → Hp → VK → Prop} (slot : Slot "tuple" name id) (hty : typeOf (.builtin id) = pure (.type "method_descriptor")) (hm : MtR X id r) (ho : PE X o to) (ha : PA X (e :: es) t)
    (hbase : attributeBase o name X.env (eval o X.env) = eval o X.env := by rfl)
    (hfew : ((backTo cpos (starEach (e :: es) X.env)).all (fun x => !x.1) && (backToKw cpos (keywordEach [] X.env)).all (fun x => x.1.isSome) && decide ((e :: es).length + ([] : List Keyword).length + (if ([] : List Keyword).isEmpty then 0 else 1) < 30)) = true := by rfl)
    (hline : (apos.endLine == cpos.line) = true := by rfl) (hs : starEach (e :: es) X.env = (false, eval e X.env) :: starEach es X.env := by rfl) (hplain : (backTo cpos (starEach es X.env)).any (·.1) = false := by rfl) :
    PE X (.Call (.Attribute o name apos) (e :: es) [] cpos) (tBMT X.K r to t) := by
  refine ⟨fun pins s σ H Q I h => ?_⟩
  refine wpAny_Call_method_late hbase hfew hline rfl (thn (ho.run pins s σ H _ I h) fun v s1 ⟨x, H1, I1, r1, ty, q1⟩ => ?_)
  obtain ⟨a, xs, rfl, hq, hn⟩ := ty
  cases r1
  obtain ⟨its, rv, p, _⟩ := I1.tuple hq
  refine ⟨"tuple", id, PySem.F.plainAttrs_tuple, slot, hty, p.typeIs, fun b e => ?_, ?_⟩
  · cases e
    exact tn_is I1 hn
  · have hA := ha.run cpos pins s1 σ H1 _ I1 q1
    rw [hs] at hA ⊢
    refine Calls.callWith_builtin (by show (false || (backTo cpos (starEach es X.env)).any (·.1)) = false; rw [hplain] <;> rfl) (Calls.evalArgs_plain ?_)
    exact thn hA fun us s2 ⟨vs, H2, I2, r2, q2⟩ => hm pins s2 σ H2 (.ref a) vs (.ref a) us Q I2 rfl r2 q2
/-! ### count -/
def countD (d : PyData) (ds : List PyData) : Nat := ds.countP fun z => PyData.eqv z d
def rCountT (K : PySem.W.Frag) : V → List V → Hp → VK → Prop := fun x xs H Q => ∃ y d ds, xs = [y] ∧ Dp K H x (.tuple ds) ∧ Dp K H y d ∧ SeqAt.shaped (.tuple ds) = true ∧ SeqAt.shaped d = true ∧ Q (.int (countD d ds : Nat)) H
def rCountL (K : PySem.W.Frag) : V → List V → Hp → VK → Prop := fun x xs H Q => ∃ y d ds, xs = [y] ∧ Dp K H x (.list ds) ∧ Dp K H y d ∧ SeqAt.shaped (.list ds) = true ∧ SeqAt.shaped d = true ∧ Q (.int (countD d ds : Nat)) H
theorem count_map {h : Heap} {its : List Value} {ds : List PyData} {d : PyData} (hm : its.map (SeqAt.readOf h) = ds) : its.countP (fun u => PyData.eqv (SeqAt.readOf h u) d) = countD d ds := by
  unfold countD
  rw [← hm, List.countP_map]
  rfl
theorem mt_countT {X : Cx} (hu : X.A.units + 65 < cLine) : MtR X "tuple.count" (rCountT X.K) := by
  intro pins s σ H x xs v us Q I rx rxs ⟨y, d, ds, e1, hl, hy, sl, sd, q⟩
  subst e1
  obtain ⟨uy, rfl, ry⟩ := vals1 rxs
  obtain ⟨bs, r1⟩ := Dp.reads I d y uy hy ry
  have hxs : PyData.canLayAll0 ds = true := by
    have := SeqAt.canLay_of_shaped sl
    simpa only [PyData.canLay0] using this
  have hroom : X.A.units + 1 + min (PyData.depthAll ds) d.depth < cLine := room_in_shaped sd hu
  cases hl with
  | tup hs ha =>
    cases rx
    obtain ⟨its, rv, ⟨⟨cls, dd, data, sls⟩, ho, hc, n, hd⟩, hlen⟩ := I.tuple hs
    simp only at hc hd
    subst hc hd
    obtain ⟨as, h4⟩ := Dp.readsAll I ds _ its ha rv
    have hm := SeqAt.readsAll_map ds its as hxs h4
    refine call_meets PySem.F.slot_tuple_count ⟨_, ho, rfl⟩ PySem.F.entry_tuple_count (PySem.F.args_tuple_count_2 _ _)
      (SeqAt.tuple_countAt _ its.toArray n dd sls uy fun u => PyData.eqv (SeqAt.readOf s.heap u) d) ⟨ho, SeqAt.items_eqAt (vs := its.toArray) h4 r1 hxs (SeqAt.canLay_of_shaped sd) hroom, ?_⟩
    refine ⟨.int (countD d ds : Nat), H, I.tok _, ⟨s.toks, ?_⟩, q⟩
    rw [List.toList_toArray, count_map hm]
theorem mt_countL {X : Cx} (hu : X.A.units + 65 < cLine) : MtR X "list.count" (rCountL X.K) := by
  intro pins s σ H x xs v us Q I rx rxs ⟨y, d, ds, e1, hl, hy, sl, sd, q⟩
  subst e1
  obtain ⟨uy, rfl, ry⟩ := vals1 rxs
  obtain ⟨bs, r1⟩ := Dp.reads I d y uy hy ry
  have hxs : PyData.canLayAll0 ds = true := by
    have := SeqAt.canLay_of_shaped sl
    simpa only [PyData.canLay0] using this
  have hroom : X.A.units + 1 + min (PyData.depthAll ds) d.depth < cLine := room_in_shaped sd hu
  cases hl with
  | lst hs ha =>
    cases rx
    obtain ⟨its, rv, ⟨⟨cls, dd, data, sls⟩, n, ho, hc, hdn, hd⟩, hlen⟩ := I.list hs
    simp only at hc hd
    subst hc hd
    obtain ⟨as, h4⟩ := Dp.readsAll I ds _ its ha rv
    have hm := SeqAt.readsAll_map ds its as hxs h4
    refine call_meets PySem.F.slot_list_count ⟨_, ho, rfl⟩ PySem.F.entry_list_count (PySem.F.args_list_count_2 _ _)
      (SeqAt.list_countAt _ its.toArray n dd sls uy fun u => PyData.eqv (SeqAt.readOf s.heap u) d) ⟨ho, SeqAt.items_eqAt (vs := its.toArray) h4 r1 hxs (SeqAt.canLay_of_shaped sd) hroom, ?_⟩
    refine ⟨.int (countD d ds : Nat), H, I.tok _, ⟨s.toks, ?_⟩, q⟩
    rw [List.toList_toArray, count_map hm]
/-! ### not in range -/
def rNinR : R2 := fun x y H Q => ∃ i a lo hi, x = V.int i ∧ y = V.ref a ∧ H a = some (.rng lo hi) ∧ Q (.bl (!decide (lo ≤ i ∧ i < hi))) H
theorem op_ninR {X : Cx} : OpR X (compareOp .NotIn) rNinR := by
  intro pins s σ H x y v u Q I rx ry ⟨i, a, lo, hi, e1, e2, ha, q⟩
  subst e1 e2
  obtain ⟨k, rfl⟩ := rx
  obtain rfl : u = Value.ref a := ry
  obtain ⟨t1, t2, t3, ho⟩ := I.hok a _ ha
  show wpAny _ _ (do return Value.bool (!(← contains (Value.ref a) (Value.int i k)))) _ _ s
  refine wpAny_bind (wpAny_contains_slot (T := "range") ⟨_, ho, rfl⟩ PySem.F.slot_range_contains (call_meets PySem.F.slot_range_contains ⟨_, ho, rfl⟩ PySem.F.entry_range_contains
    (PySem.F.args_range_contains_2 _ _) (q_contains a lo hi i t1 t2 t3 k) ⟨ho, wpAny_truthy_bool (wpAny_pure ⟨.bl _, H, I, rfl, ?_⟩)⟩))
  rw [place1]
  exact q
section
variable {K : PySem.W.Frag} {b : List Addr} {σ : L2.St} {H H' : Hp} {ta tb te : TE} {tt : TT} {ts : TS} {d a c e : PyData} {ds : List PyData}
theorem ed_countT (ha : ED K b ta σ H (.tuple ds)) (hb : ED K b tb σ H d) (sl : SeqAt.shaped (.tuple ds) = true) (sd : SeqAt.shaped d = true) : ED K b (tBMT K (rCountT K) ta (tCons tb tNil)) σ H (.int (countD d ds : Nat)) := fun H1 x1 Q q =>
  ha H1 x1 _ fun x H2 x2 hx => by
    have hx' := hx
    cases hx' with
    | tup h1 hn _ =>
      exact ⟨⟨_, _, rfl, ex_t hid_le h1, hn.ex hid_le⟩, hb H2 (x1.trans x2) _ fun y H3 x3 hy => ⟨y, d, ds, rfl, (Dq.up hx x3).dp, hy.dp, sl, sd, q _ H3 (x2.trans x3) (.int _)⟩⟩
theorem ed_countL (ha : ED K b ta σ H (.list ds)) (hb : ED K b tb σ H d) (sl : SeqAt.shaped (.list ds) = true) (sd : SeqAt.shaped d = true) : ED K b (tBM K "list" (rCountL K) ta (tCons tb tNil)) σ H (.int (countD d ds : Nat)) := fun H1 x1 Q q =>
  ha H1 x1 _ fun x H2 x2 hx => by
    have hx' := hx
    cases hx' with
    | lst h1 _ =>
      exact ⟨.inl ⟨rfl, _, ex_l hid_le h1⟩, hb H2 (x1.trans x2) _ fun y H3 x3 hy => ⟨y, d, ds, rfl, (Dq.up hx x3).dp, hy.dp, sl, sd, q _ H3 (x2.trans x3) (.int _)⟩⟩
theorem sr_unpack3 {i j k : Nat} (h : ED K b te σ H (.tuple [a, c, e])) (kk : ∀ v1 v2 v3 H', Ex H H' → Dq K b H' v1 a → Dq K b H' v2 c → Dq K b H' v3 e → SR K b ts (((σ.set i (some v1)).set j (some v2)).set k (some v3)) H' d) :
    SR K b (tSeq (tAsg te (gTup K 3 (gCons (gName i) (gCons (gName j) (gCons (gName k) gNil))))) ts) σ H d := fun H1 x1 D q =>
  h H1 x1 _ fun v H2 x2 hv => by
    cases hv with
    | tup h1 _ h2 =>
      cases h2 with
      | cons p1 p2 =>
        cases p2 with
        | cons p3 p4 =>
          cases p4 with
          | cons p5 p6 =>
            cases p6
            exact ⟨_, _, rfl, ex_t hid_le h1, rfl, _, _, rfl, _, _, rfl, _, _, rfl, rfl, kk _ _ _ H2 (x1.trans x2) p1 p3 p5 H2 (Ex.refl H2) D fun z H4 x4 hz => q _ H4 (x2.trans x4) hz⟩
/-- one sign in a written text -/
def rInSg : R2 := fun x y H Q => ∃ (c : Nat) (z : Str), x = .str ⟨#[c]⟩ ∧ y = .str z ∧ Q (.bl (decide (c ∈ z.cps.toList))) H
theorem op_inSg {X : Cx} : OpR X (compareOp .In) rInSg := op_in_sign
theorem ed_inSg {c : Nat} {z : Str} (ha : ED K b ta σ H (.str ⟨#[c]⟩)) (hb : ED K b tb σ H (.str z)) : ED K b (tOp rInSg ta tb) σ H (.bool (decide (c ∈ z.cps.toList))) :=
  ed_op ha hb fun H1 x y Q _ hx hy q => ⟨c, z, dq_str hx, dq_str hy, q _ H1 (Ex.refl H1) (.bl _)⟩
/-- sep.join(texts) -/
def rJoin (K : PySem.W.Frag) : V → List V → Hp → VK → Prop := fun x xs H Q => ∃ a p, ∃ ys : List Str, x = .str a ∧ xs = [.ref p] ∧ (SqL K H p (ys.map V.str) ∨ SqT K H p (ys.map V.str)) ∧ (ys.map (·.length)).sum + ys.length * a.length ≤ 16777216 ∧ Q (.str (Txt.join a ys)) H
theorem mt_joinD {X : Cx} : MtR X "str.join" (rJoin X.K) := mt_join
theorem ed_join {z : Str} {ys : List Str} (ha : ED K b ta σ H (.str z)) (hb : ED K b tb σ H (.list (ys.map PyData.str))) (hl : (ys.map (·.length)).sum + ys.length * z.length ≤ 16777216) : ED K b (tBM K "str" (rJoin K) ta (tCons tb tNil)) σ H (.str (Txt.join z ys)) := fun H1 x1 Q q =>
  ha H1 x1 _ fun x H2 x2 hx => by
    cases hx
    refine ⟨rfl, hb H2 (x1.trans x2) _ fun y H3 x3 hy => ?_⟩
    have hy' := hy.dd
    cases hy' with
    | lst h1 h2 =>
      rw [dps_strs h2] at h1
      exact ⟨z, _, ys, rfl, rfl, .inl h1, hl, q _ H3 (x2.trans x3) (.str _)⟩
/-- text.split(sep) -/
def rSplit : V → List V → Hp → VK → Prop := fun x xs H Q => ∃ a b, x = .str a ∧ xs = [.str b] ∧ (b.length == 0) = false ∧ a.length + 2 ≤ sizeLine ∧ rNewStrs (Txt.split a b) H Q
theorem mt_splitD {X : Cx} : MtR X "str.split" rSplit := mt_split
theorem ed_split {z y : Str} (kn : Kn b H) (ha : ED K b ta σ H (.str z)) (hb : ED K b tb σ H (.str y)) (hy : (y.length == 0) = false) (hl : z.length + 2 ≤ sizeLine) : ED K b (tBM K "str" rSplit ta (tCons tb tNil)) σ H (.list ((Txt.split z y).map PyData.str)) := fun H1 x1 Q q =>
  ha H1 x1 _ fun x H2 x2 hx => by
    cases hx
    refine ⟨rfl, hb H2 (x1.trans x2) _ fun v H3 x3 hv => ?_⟩
    cases hv
    exact ⟨z, y, rfl, rfl, hy, hl, fun p hp => q _ _ ((x2.trans x3).trans (Ex.new hp)) (.lst (.inl (.inl (hid_new ((kn.up ((x1.trans x2).trans x3)).new hp)))) (strs_dps _))⟩
/-- len(..) not in range(lo, hi) -/
theorem ed_ninR {i lo hi : Int} {tlo thi : TE} (ha : ED K b ta σ H (.int i)) (h1 : ED K b tlo σ H (.int lo)) (h2 : ED K b thi σ H (.int hi)) :
    ED K b (tOp rNinR ta (tCB (fun vs H Q => ∃ i j, vs = [V.int i, V.int j] ∧ ∀ p, H p = none → Q (.ref p) (upd H p (.rng i j))) (tCons tlo (tCons thi tNil)))) σ H (.bool (!decide (lo ≤ i ∧ i < hi))) := fun H1 x1 Q q =>
  ha H1 x1 _ fun x H2 x2 hx => h1 H2 (x1.trans x2) _ fun y H3 x3 hy => h2 H3 ((x1.trans x2).trans x3) _ fun z H4 x4 hz => ⟨lo, hi, by rw [dq_int hy, dq_int hz], fun p hp =>
    ⟨i, p, lo, hi, dq_int hx, rfl, upd_same, q _ _ (((x2.trans x3).trans x4).trans (Ex.new hp)) (.bl _)⟩⟩
end
end Wr

set_option Elab.async false
set_option linter.all false
set_option maxRecDepth 100000
set_option maxHeartbeats 4000000
namespace Wr
open PySem PySem.Spec PyProof.Rows L2 Evl
/-! ### a heap that grows but for the bag at a -/
def ExB (a : Addr) (H H' : Hp) : Prop := ∀ c o, c ≠ a → H c = some o → H' c = some o
theorem ExB.refl (a : Addr) (H : Hp) : ExB a H H := fun _ _ _ h => h
theorem ExB.trans {a : Addr} {H H1 H2 : Hp} (x : ExB a H H1) (y : ExB a H1 H2) : ExB a H H2 := fun c o n h => y c o n (x c o n h)
theorem exb {a : Addr} {H H1 : Hp} (x : Ex H H1) : ExB a H H1 := fun c o _ h => x c o h
theorem hid_exB {b : List Addr} {a : Addr} {H H' : Hp} (ha : a ∈ b) (e : ExB a H H') : Ex (hid b H) (hid b H') := fun c o h => by
  obtain ⟨h1, h2⟩ := hid_some h
  rw [hid_ne h1]
  exact e c o (fun z => h1 (z ▸ ha)) h2
theorem Dq.upB {K : PySem.W.Frag} {b : List Addr} {a : Addr} {H H' : Hp} {v : V} {d : PyData} (ha : a ∈ b) (h : Dq K b H v d) (e : ExB a H H') : Dq K b H' v d := dp_ex (hid_exB ha e) d v h
theorem DqAll.upB {K : PySem.W.Frag} {b : List Addr} {a : Addr} {H H' : Hp} {vs : List V} {ds : List PyData} (ha : a ∈ b) (h : DqAll K b H vs ds) (e : ExB a H H') : DqAll K b H' vs ds := dps_ex (hid_exB ha e) ds vs h
/-- the bag at a, from which n things may be taken -/
def Bag (a : Addr) (n : Nat) (H : Hp) : Prop := ∃ g x c : Int, H a = some (.lst [.int g, .int x, .int c]) ∧ 0 ≤ g ∧ 0 ≤ x ∧ x < 2000000000000000000 ∧ 0 ≤ c ∧ c + (n : Int) ≤ 1000000
theorem Bag.le {a : Addr} {n m : Nat} {H : Hp} (h : Bag a n H) (hm : m ≤ n) : Bag a m H := by
  obtain ⟨g, x, c, h1, h2, h3, h4, h5, h6⟩ := h
  exact ⟨g, x, c, h1, h2, h3, h4, h5, by omega⟩
theorem Bag.ex {a : Addr} {n : Nat} {H H' : Hp} (h : Bag a n H) (e : Ex H H') : Bag a n H' := by
  obtain ⟨g, x, c, h1, r⟩ := h
  exact ⟨g, x, c, e _ _ h1, r⟩
theorem Bag.there {a : Addr} {n : Nat} {H : Hp} (h : Bag a n H) : H a ≠ none := by
  obtain ⟨g, x, c, h1, _⟩ := h
  rw [h1]
  intro z
  cases z
theorem Bag.kn {a : Addr} {n : Nat} {H : Hp} (h : Bag a n H) : Kn [a] H := fun c hc => by
  rw [List.mem_singleton.mp hc]
  exact h.there
theorem ExB.kn {a : Addr} {n : Nat} {b : List Addr} {H H' : Hp} (k : Kn b H) (x : ExB a H H') (h : Bag a n H') : Kn b H' := fun c hc z => by
  by_cases e : c = a
  · subst e
    exact h.there z
  · cases q : H c with
    | none => exact k c hc q
    | some o =>
      rw [x c o e q] at z
      cases z
/-! ### what is evaluated while things are taken from the bag -/
section
variable (K : PySem.W.Frag) (b : List Addr) (a : Addr) (n m : Nat)
def EG (te : TE) (σ : L2.St) (H : Hp) (P : PyData → Prop) : Prop := ∀ H1, ExB a H H1 → Kn b H1 → Bag a n H1 → ∀ Q : VK, (∀ v d H2, ExB a H1 H2 → Bag a m H2 → Dq K b H2 v d → P d → Q v H2) → te σ H1 Q
def EGA (ta : TA) (σ : L2.St) (H : Hp) (P : List PyData → Prop) : Prop := ∀ H1, ExB a H H1 → Kn b H1 → Bag a n H1 → ∀ Q : List V → Hp → Prop, (∀ vs ds H2, ExB a H1 H2 → Bag a m H2 → DqAll K b H2 vs ds → P ds → Q vs H2) → ta σ H1 Q
def GS (ts : TS) (σ : L2.St) (H : Hp) (P : PyData → Prop) : Prop := ∀ H1, ExB a H H1 → Kn b H1 → Bag a n H1 → ∀ D : Ends, (∀ v d H2, ExB a H1 H2 → Bag a m H2 → Dq K b H2 v d → P d → D.rt v H2) → ts D σ H1
end
/-- a def that takes from the bag: at most n things; its data in, one datum out -/
def spG (K : PySem.W.Frag) (n : Nat) (pre : List PyData → Prop) (P : List PyData → PyData → Prop) : Sp := fun vs H Q _ =>
  ∃ b a k ws ds, vs = .ref a :: ws ∧ a ∈ b ∧ Kn b H ∧ Bag a (k + n) H ∧ DqAll K b H ws ds ∧ pre ds ∧ ∀ v d H', ExB a H H' → Bag a k H' → Dq K b H' v d → P ds d → Q v H'
section
variable {K : PySem.W.Frag} {b : List Addr} {a : Addr} {n m k : Nat} {σ : L2.St} {H H' : Hp} {ta tb te : TE} {t : TA} {tt : TT} {ts t1 t2 : TS} {P P' : PyData → Prop} {d : PyData}
theorem EG.imp (h : EG K b a n m te σ H P) (hp : ∀ d, P d → P' d) : EG K b a n m te σ H P' := fun H1 x1 kn bg Q q => h H1 x1 kn bg Q fun v d H2 x2 b2 hv p => q v d H2 x2 b2 hv (hp d p)
theorem EG.mono (x : ExB a H H') (h : EG K b a n m te σ H P) : EG K b a n m te σ H' P := fun H1 x1 => h H1 (x.trans x1)
theorem EG.le {m' : Nat} (h : EG K b a n m te σ H P) (hm : m' ≤ m) : EG K b a n m' te σ H P := fun H1 x1 kn bg Q q => h H1 x1 kn bg Q fun v d H2 x2 b2 hv p => q v d H2 x2 (b2.le hm) hv p
theorem eg_pure (h : ∀ H1, ExB a H H1 → Kn b H1 → ED K b te σ H1 d) (p : P d) : EG K b a n n te σ H P := fun H1 x1 kn bg Q q => h H1 x1 kn H1 (Ex.refl H1) Q fun v H2 x2 hv => q v d H2 (exb x2) (bg.ex x2) hv p
theorem eg_var {i : Nat} {v : V} (hv : σ[i]? = some (some v)) (ha : a ∈ b) (hd : Dq K b H v d) (p : P d) : EG K b a n n (tVar i) σ H P := eg_pure (fun H1 x1 _ => ed_var hv (hd.upB ha x1)) p
theorem ega_nil : EGA K b a n n tNil σ H (· = []) := fun H1 x1 kn bg Q q => q [] [] H1 (ExB.refl a H1) bg .nil rfl
theorem ega_cons {R : List PyData → Prop} (ha : a ∈ b) (h1 : EG K b a n k ta σ H P) (h2 : EGA K b a k m t σ H R) : EGA K b a n m (tCons ta t) σ H (fun ds => ∃ d r, ds = d :: r ∧ P d ∧ R r) := fun H1 x1 kn bg Q q =>
  h1 H1 x1 kn bg _ fun v d H2 x2 b2 hv p => h2 H2 (x1.trans x2) (x2.kn kn b2) b2 _ fun vs ds H3 x3 b3 hvs r => q _ (d :: ds) H3 (x2.trans x3) b3 (.cons (hv.upB ha x3) hvs) ⟨d, ds, rfl, p, r⟩
/-- a call of a def that takes from the bag -/
theorem eg_call {c : Nat} {pre : List PyData → Prop} {R : List PyData → PyData → Prop} {S : List PyData → Prop} {E : XK} {i : Nat} (ha : a ∈ b) (hb : σ[i]? = some (some (.ref a))) (hargs : EGA K b a n (m + c) t σ H S) (hp : ∀ ds, S ds → pre ds) (hr : ∀ ds d, S ds → R ds d → P d) :
    EG K b a n m (tCall (spG K c pre R) [] E (tCons (tVar i) t)) σ H P := fun H1 x1 kn bg Q q =>
  ⟨.ref a, hb, hargs H1 x1 kn bg _ fun vs ds H2 x2 b2 hvs s => ⟨b, a, m, vs, ds, by rw [List.append_nil], ha, x2.kn kn b2, b2, hvs, hp ds s, fun v d H3 x3 b3 hv r => q v d H3 (x2.trans x3) b3 hv (hr ds d s r)⟩⟩
theorem gs_ret (h : EG K b a n m te σ H P) : GS K b a n m (tRet te) σ H P := fun H1 x1 kn bg D q => h H1 x1 kn bg _ q
theorem gs_if {c : Bool} (hc : ∀ H1, ExB a H H1 → Kn b H1 → EvT tt σ H1 c) (h1 : c = true → GS K b a n m t1 σ H P) (h2 : c = false → GS K b a n m t2 σ H P) : GS K b a n m (tSeq (tIfS tt t1 tNext) t2) σ H P := fun H1 x1 kn bg D q =>
  hc H1 x1 kn H1 (Ex.refl H1) _ fun H2 x2 => by
    cases c with
    | true =>
      rw [if_pos rfl]
      exact h1 rfl H2 (x1.trans (exb x2)) (kn.up x2) (bg.ex x2) _ fun v d H3 x3 b3 hv p => q v d H3 ((exb x2).trans x3) b3 hv p
    | false =>
      rw [if_neg Bool.false_ne_true]
      exact h2 rfl H2 (x1.trans (exb x2)) (kn.up x2) (bg.ex x2) _ fun v d H3 x3 b3 hv p => q v d H3 ((exb x2).trans x3) b3 hv p
theorem gs_set {i : Nat} {P1 : PyData → Prop} (h : EG K b a n k te σ H P1) (kk : ∀ v d H', ExB a H H' → Dq K b H' v d → P1 d → GS K b a k m ts (σ.set i (some v)) H' P) : GS K b a n m (tSeq (tAsg te (gName i)) ts) σ H P := fun H1 x1 kn bg D q =>
  h H1 x1 kn bg _ fun v d H2 x2 b2 hv p => kk v d H2 (x1.trans x2) hv p H2 (ExB.refl a H2) (x2.kn kn b2) b2 D fun v' d' H3 x3 b3 hv' p' => q v' d' H3 (x2.trans x3) b3 hv' p'
/-- a conditional expression whose test is pure -/
theorem eg_if {c : Bool} (hc : ∀ H1, ExB a H H1 → Kn b H1 → EvT tt σ H1 c) (h1 : c = true → EG K b a n m ta σ H P) (h2 : c = false → EG K b a n m tb σ H P) : EG K b a n m (tIf tt ta tb) σ H P := fun H1 x1 kn bg Q q =>
  hc H1 x1 kn H1 (Ex.refl H1) _ fun H2 x2 => by
    cases c with
    | true =>
      rw [if_pos rfl]
      exact h1 rfl H2 (x1.trans (exb x2)) (kn.up x2) (bg.ex x2) _ fun v d H3 x3 b3 hv p => q v d H3 ((exb x2).trans x3) b3 hv p
    | false =>
      rw [if_neg Bool.false_ne_true]
      exact h2 rfl H2 (x1.trans (exb x2)) (kn.up x2) (bg.ex x2) _ fun v d H3 x3 b3 hv p => q v d H3 ((exb x2).trans x3) b3 hv p
/-- two operands, the operation pure on their data -/
theorem eg_op {r : R2} {P1 P2 : PyData → Prop} (ha : a ∈ b) (h1 : EG K b a n k ta σ H P1) (h2 : EG K b a k m tb σ H P2) (hr : ∀ d e H1 x y (Q : VK), P1 d → P2 e → ExB a H H1 → Kn b H1 → Dq K b H1 x d → Dq K b H1 y e → (∀ v z H2, Ex H1 H2 → Dq K b H2 v z → P z → Q v H2) → r x y H1 Q) : EG K b a n m (tOp r ta tb) σ H P := fun H1 x1 kn bg Q q =>
  h1 H1 x1 kn bg _ fun v d H2 x2 b2 hv p1 => h2 H2 (x1.trans x2) (x2.kn kn b2) b2 _ fun w e H3 x3 b3 hw p2 =>
    hr d e H3 v w Q p1 p2 ((x1.trans x2).trans x3) (x3.kn (x2.kn kn b2) b3) (hv.upB ha x3) hw fun u z H4 x4 hu p => q u z H4 ((x2.trans x3).trans (exb x4)) (b3.ex x4) hu p
/-- a new tuple of what is evaluated -/
theorem eg_tup {R : List PyData → Prop} (h : EGA K b a n m t σ H R) (hl : ∀ ds, R ds → ds.length ≤ sizeLine ∧ P (.tuple ds)) : EG K b a n m (tTupF t) σ H P := fun H1 x1 kn bg Q q =>
  h H1 x1 kn bg _ fun vs ds H2 x2 b2 hvs r => ⟨by rw [dps_len hvs]; exact (hl ds r).1, fun p o hp ho => by
    have e := hid_new (o := HO.frz o (.tup vs)) (H := H2) ((x2.kn kn b2).new hp)
    exact q _ (.tuple ds) _ (x2.trans (exb (Ex.new hp))) (b2.ex (Ex.new hp)) (.tup (.inl (.inr ⟨_, e⟩)) (.inl ⟨_, _, e, ho⟩) (hvs.up (Ex.new hp))) (hl ds r).2⟩
end
theorem GS.fin {K : PySem.W.Frag} {b : List Addr} {a : Addr} {n m : Nat} {σ : L2.St} {H : Hp} {ts : TS} {P : PyData → Prop} {D : Ends} (h : GS K b a n m ts σ H P) (kn : Kn b H) (bg : Bag a n H) (q : ∀ v d H', ExB a H H' → Bag a m H' → Dq K b H' v d → P d → D.rt v H') : ts D σ H := h H (ExB.refl a H) kn bg D q
/-! ### wide powers -/
def CPowW (i j : Int) : Prop := 0 ≤ j ∧ j ≤ 100 ∧ i.natAbs < 2 ^ 1000
theorem op_powW {X : Cx} : OpR X (binaryOp .Pow) (rI CPowW fun i j => .int (i ^ j.toNat)) := opI fun i j _ _ _ _ _ hc q => pow_int hc.1 (by
  have hlog : i.natAbs.log2 < 1000 := by
    by_cases h0 : i.natAbs = 0
    · rw [h0]; decide
    · exact (Nat.log2_lt h0).mpr hc.2.2
  have h1 : (Builtin.Int.intBits i : Nat) ≤ 1001 := by
    unfold Builtin.Int.intBits
    split <;> omega
  have h2 := hc.2.1
  have h3 := hc.1
  have h4 : ((Builtin.Int.intBits i : Nat) : Int) ≤ 1001 := by omega
  have h5 : ((Builtin.Int.intBits i : Nat) : Int) * j ≤ 1001 * 100 := Int.mul_le_mul h4 h2 h3 (by decide)
  exact Int.le_trans h5 (by decide)) q
end Wr

set_option Elab.async false
set_option linter.all false
set_option maxRecDepth 100000
set_option maxHeartbeats 4000000
namespace Wr
open PySem PySem.Spec PyProof.Rows L2 Evl
abbrev s_take : Stmt := topS 33
abbrev NT : List Str := ["_law_bag_here", "_law_many", "_law_digit", "_law_primes", "_law_step", "_law_low", "_law_found"]
theorem sc_take : FnScope NT ["_law_bag_here", "_law_many"] (defScope s_take) := ⟨rfl, rfl, rfl, by decide +kernel, rfl, by decide +kernel, by decide +kernel⟩
def primesD : List PyData := [.int 2147483647, .int 2147483629, .int 2147483587, .int 2147483579, .int 2147483563, .int 2147483549, .int 2147483543, .int 2147483497]
theorem primes_at {i : Int} (h0 : 0 ≤ i) (h1 : i < 8) : ∃ p, atI primesD i = some (.int p) ∧ 0 < p ∧ p < 2147483648 := by
  rcases (show i = 0 ∨ i = 1 ∨ i = 2 ∨ i = 3 ∨ i = 4 ∨ i = 5 ∨ i = 6 ∨ i = 7 by omega) with rfl | rfl | rfl | rfl | rfl | rfl | rfl | rfl
  · exact ⟨_, rfl, by decide, by decide⟩
  · exact ⟨_, rfl, by decide, by decide⟩
  · exact ⟨_, rfl, by decide, by decide⟩
  · exact ⟨_, rfl, by decide, by decide⟩
  · exact ⟨_, rfl, by decide, by decide⟩
  · exact ⟨_, rfl, by decide, by decide⟩
  · exact ⟨_, rfl, by decide, by decide⟩
  · exact ⟨_, rfl, by decide, by decide⟩
def TakePre (ds : List PyData) : Prop := ∃ m, ds = [.int m] ∧ 0 < m ∧ m < 1073741824
def TakeR (ds : List PyData) (d : PyData) : Prop := ∃ m r, ds = [.int m] ∧ d = .int r ∧ 0 ≤ r ∧ r < m
abbrev spTake (K : PySem.W.Frag) : Sp := spG K 1 TakePre TakeR
theorem spG_len {K : PySem.W.Frag} {n k : Nat} {pre : List PyData → Prop} {R : List PyData → PyData → Prop} (hl : ∀ ds, pre ds → ds.length = k) {vs : List V} {H : Hp} {Q : VK} {E : XK} (h : spG K n pre R vs H Q E) : vs.length = k + 1 := by
  obtain ⟨b, a, k', ws, ds, rfl, _, _, _, hd, hp, _⟩ := h
  rw [List.length_cons, dps_len hd, hl ds hp]
section
variable {K : PySem.W.Frag} {b : List Addr} {σ : L2.St} {H H' : Hp} {ta tb te : TE}
theorem gnext {D : Ends} {σ : L2.St} {H : Hp} (h : D.nx σ H) : tNext D σ H := h
theorem g_set {D : Ends} {i : Nat} {ts : TS} {d : PyData} (h : ED K b te σ H d) (k : ∀ v H', Ex H H' → Dq K b H' v d → ts D (σ.set i (some v)) H') : tSeq (tAsg te (gName i)) ts D σ H := h H (Ex.refl H) _ fun v H' x hv => k v H' x hv
/-- an item of the bag -/
theorem ed_bag {a : Addr} {xs : List V} {i j : Nat} {k : Int} (hs : σ[j]? = some (some (.ref a))) (h : H a = some (.lst xs)) (hi : xs[i]? = some (.int k)) : ED K b (tOp (rIxL K) (tVar j) (tC (.int (i : Nat)))) σ H (.int k) := fun H1 x1 Q q =>
  ⟨.ref a, hs, a, xs, (i : Nat), .int k, rfl, rfl, .inl (.inl (x1 _ _ h)), atI_nat hi, q _ H1 (Ex.refl H1) (.int _)⟩
theorem ed_mul {i j : Int} (ha : ED K b ta σ H (.int i)) (hb : ED K b tb σ H (.int j)) (hc : CMul i j) : ED K b (tOp (rI CMul fun i j => .int (i * j)) ta tb) σ H (.int (i * j)) := ed_I ha hb hc fun _ => .int _
theorem ed_mod {i j : Int} (ha : ED K b ta σ H (.int i)) (hb : ED K b tb σ H (.int j)) (hc : 0 < j) : ED K b (tOp (rI (fun _ j => 0 < j) fun i j => .int (i % j)) ta tb) σ H (.int (i % j)) := ed_I ha hb hc fun _ => .int _
theorem ed_fdiv {i j : Int} (ha : ED K b ta σ H (.int i)) (hb : ED K b tb σ H (.int j)) (hc : CDiv i j) : ED K b (tOp (rI CDiv fun i j => .int (i / j)) ta tb) σ H (.int (i / j)) := ed_I ha hb hc fun _ => .int _
theorem ed_powW {i j : Int} (ha : ED K b ta σ H (.int i)) (hb : ED K b tb σ H (.int j)) (hc : CPowW i j) : ED K b (tOp (rI CPowW fun i j => .int (i ^ j.toNat)) ta tb) σ H (.int (i ^ j.toNat)) := ed_I ha hb hc fun _ => .int _
end
section
variable {P : Program} {w : World} {K : PySem.W.Frag} {mg : Str → Option Value} {base : Heap} {f g g2 : Addr} {fd gd gd2 : FuncData}
theorem ok_take (D : Def K mg "_law_take" s_take ["_law_bag_here", "_law_many"] f fd) : FnOk P w K mg base CX0 1 f fd ["_law_bag_here", "_law_many"] (spTake K) := by
  refine D.F.ok sc_take (fun vs H Q E h => spG_len (fun ds ⟨m, e, _⟩ => by rw [e]; rfl) h) (fun cdv A outer s H vs Q E hr h => ?_)
  obtain ⟨b, a, k, ws, ds, rfl, hab, kn, ⟨gg, x, c, hb, g0, x0, x1, c0, c1⟩, hd, ⟨m, rfl, m0, m1⟩, q⟩ := h
  obtain ⟨v, d, rfl, ed, hv⟩ := one_of hd rfl
  cases ed
  have ev := dq_int hv
  subst ev
  refine ⟨_, pss_cons (ps_if (pt_cmpR op_gt (pe_ix ix_list (pv 0) pe_int (fun _ _ => rfl)) pe_int (nomark _))
      (pss_cons (ps_set (i := 2) sc_take.nd rfl (Or.inl rfl) (pe_op op_mod (pe_ix ix_list (pv 0) pe_int (fun _ _ => rfl)) (pv 1)))
      (pss_cons (ps_asg (pe_op op_fdiv (pe_ix ix_list (pv 0) pe_int (fun _ _ => rfl)) (pv 1)) (pg_sub (pv 0) pe_int set_list))
      (pss_one (ps_ret (pv 2))))) pss_nil)
    (pss_cons (ps_set (i := 3) sc_take.nd rfl (Or.inl rfl) (pe_tupF (pa_cons pe_int (pa_cons pe_int (pa_cons pe_int (pa_cons pe_int (pa_cons pe_int (pa_cons pe_int (pa_cons pe_int (pa_cons pe_int pa_nil))))))))))
    (pss_cons (ps_asg (pe_op op_add (pe_ix ix_list (pv 0) pe_int (fun _ _ => rfl)) pe_int) (pg_sub (pv 0) pe_int set_list))
    (pss_cons (ps_set (i := 4) sc_take.nd rfl (Or.inl rfl) (pe_ix ix_list (pv 0) pe_int (fun _ _ => rfl)))
    (pss_cons (ps_set (i := 5) sc_take.nd rfl (Or.inl rfl) (pe_op op_add (pe_op op_add (pe_op op_mul (pe_ix ix_list (pv 0) pe_int (fun _ _ => rfl)) (pe_op op_add (pe_op op_mul pe_int (pv 4)) pe_int)) (pe_op op_mul (pe_op op_mul pe_int (pv 4)) (pv 4))) pe_int))
    (pss_cons (ps_set (i := 6) sc_take.nd rfl (Or.inl rfl) (pe_op op_mod (pe_op op_powW (pv 5) pe_int) (pe_ix ix_tup (pv 3) (pe_op op_mod (pv 4) pe_int) (fun _ _ => rfl))))
    (pss_one (ps_ret (pe_op op_mod (pe_op op_fdiv (pe_op op_mod (pe_op op_mul (pv 6) (pe_op op_add (pe_op op_fdiv (pv 6) pe_int) pe_int)) (pe_ix ix_tup (pv 3) (pe_op op_mod (pe_op op_add (pv 4) pe_int) pe_int) (fun _ _ => rfl))) pe_int) (pv 1))))))))), ?_⟩
  refine et_t (K := K) (b := b) (ed_gt (ed_bag (i := 0) rfl hb rfl) ed_int) H (Ex.refl H) _ fun H1 y1 => ?_
  by_cases hg : (0 : Int) < gg
  · rw [decide_eq_true hg, if_pos rfl]
    refine (ed_mod (K := K) (b := b) (ed_bag (i := 0) rfl (y1 _ _ hb) rfl) (ed_var (d := .int m) rfl (.int m)) m0) H1 (Ex.refl H1) _ fun v2 H2 y2 hv2 => ?_
    have e2 := dq_int hv2
    subst e2
    refine (ed_fdiv (K := K) (b := b) (ed_bag (i := 0) rfl (y2 _ _ (y1 _ _ hb)) rfl) (ed_var (d := .int m) rfl (.int m)) ⟨m0, m1⟩) H2 (Ex.refl H2) _ fun v3 H3 y3 hv3 => ?_
    have e3 := dq_int hv3
    subst e3
    have hb3 := y3 _ _ (y2 _ _ (y1 _ _ hb))
    refine ⟨.ref a, rfl, a, _, 0, 0, rfl, rfl, hb3, rfl, _, rfl, ?_⟩
    refine q _ (.int (gg % m)) _ (fun c o n h => ?_) ⟨gg / m, x, c, upd_same, Int.ediv_nonneg g0 (by omega), x0, x1, c0, by omega⟩ (.int _) ⟨m, gg % m, rfl, rfl, Int.emod_nonneg _ (by omega), Int.emod_lt_of_pos _ m0⟩
    rw [upd_ne n]
    exact y3 _ _ (y2 _ _ (y1 _ _ h))
  · rw [decide_eq_false hg, if_neg Bool.false_ne_true]
    have kn1 := kn.up y1
    refine gnext ?_
    refine g_set (ed_tup (K := K) (b := b) (ds := primesD) kn1 (ea_cons ed_int (ea_cons ed_int (ea_cons ed_int (ea_cons ed_int (ea_cons ed_int (ea_cons ed_int (ea_cons ed_int (ea_cons ed_int ea_nil)))))))) (by decide)) fun vp H2 y2 hp => ?_
    have hb2 := y2 _ _ (y1 _ _ hb)
    refine (ed_add (K := K) (b := b) (ed_bag (i := 2) rfl hb2 rfl) ed_int) H2 (Ex.refl H2) _ fun v3 H3 y3 hv3 => ?_
    have e3 := dq_int hv3
    subst e3
    have hb3 := y3 _ _ hb2
    refine ⟨.ref a, rfl, a, _, 2, 2, rfl, rfl, hb3, rfl, ?_⟩
    have hb4 : (upd H3 a (.lst ([V.int gg, .int x, .int c].set 2 (.int (c + 1))))) a = some (.lst [.int gg, .int x, .int (c + 1)]) := upd_same
    have hx4 : ExB a H (upd H3 a (.lst ([V.int gg, .int x, .int c].set 2 (.int (c + 1))))) := fun z o n h => by
      rw [upd_ne n]
      exact y3 _ _ (y2 _ _ (y1 _ _ h))
    have hp4 : Dq K b (upd H3 a (.lst ([V.int gg, .int x, .int c].set 2 (.int (c + 1))))) vp (.tuple primesD) := Dq.upB hab hp fun z o n h => by
      rw [upd_ne n]
      exact y3 _ _ h
    generalize upd H3 a (.lst ([V.int gg, .int x, .int c].set 2 (.int (c + 1)))) = H4 at hb4 hx4 hp4
    refine (ed_bag (K := K) (b := b) (i := 2) rfl hb4 rfl) H4 (Ex.refl H4) _ fun v5 H5 y5 hv5 => ?_
    have e5 := dq_int hv5
    subst e5
    have s0 : 0 ≤ c + 1 := by omega
    have s1 : c + 1 ≤ 1000000 := by omega
    generalize hst : c + 1 = st at *
    refine (ed_add (K := K) (b := b) (ed_add (ed_mul (ed_bag (i := 1) rfl (y5 _ _ hb4) rfl) (ed_add (ed_mul ed_int (ed_var (d := .int st) rfl (.int st)) (.inl (by decide))) ed_int) (.inl ⟨by omega, by omega⟩))
      (ed_mul (ed_mul ed_int (ed_var (d := .int st) rfl (.int st)) (.inl (by decide))) (ed_var (d := .int st) rfl (.int st)) (.inr ⟨by omega, by omega⟩))) ed_int) H5 (Ex.refl H5) _ fun v6 H6 y6 hv6 => ?_
    have e6 := dq_int hv6
    subst e6
    have ba : x * (2 * st + 1) + 4409 * st * st + 37 < 2 ^ 200 ∧ 0 ≤ x * (2 * st + 1) + 4409 * st * st + 37 := by
      have a1 : x * (2 * st + 1) ≤ 2000000000000000000 * 2000001 := Int.mul_le_mul (by omega) (by omega) (by omega) (by decide)
      have a2 : 0 ≤ x * (2 * st + 1) := Int.mul_nonneg x0 (by omega)
      have a3 : 4409 * st * st ≤ 4409000000 * 1000000 := Int.mul_le_mul (by omega) s1 s0 (by decide)
      have a4 : 0 ≤ 4409 * st * st := Int.mul_nonneg (by omega) s0
      constructor
      · have : (2000000000000000000 * 2000001 + 4409000000 * 1000000 + 37 : Int) < 2 ^ 200 := by decide
        omega
      · omega
    generalize x * (2 * st + 1) + 4409 * st * st + 37 = bs at ba
    obtain ⟨p1, hp1, p10, p11⟩ := primes_at (Int.emod_nonneg st (by decide : (8 : Int) ≠ 0)) (Int.emod_lt_of_pos st (by decide))
    obtain ⟨p2, hp2, p20, p21⟩ := primes_at (Int.emod_nonneg (st + 2) (by decide : (8 : Int) ≠ 0)) (Int.emod_lt_of_pos (st + 2) (by decide))
    have hpw : CPowW bs 3 := ⟨by decide, by decide, by
      have : bs.natAbs < 2 ^ 200 := by
        have h1 := ba.1
        have h2 : ((bs.natAbs : Nat) : Int) < ((2 ^ 200 : Nat) : Int) := by
          have e : ((2 ^ 200 : Nat) : Int) = 2 ^ 200 := by norm_cast
          rw [e]
          omega
        exact Int.ofNat_lt.mp h2
      exact Nat.lt_trans this (by decide)⟩
    refine (ed_mod (K := K) (b := b) (ed_powW (ed_var (d := .int bs) rfl (.int bs)) ed_int hpw) (ed_ixT (ed_var rfl ((hp4.up y5).up y6)) (ed_mod (ed_var (d := .int st) rfl (.int st)) ed_int (by decide)) hp1) p10) H6 (Ex.refl H6) _ fun v7 H7 y7 hv7 => ?_
    have e7 := dq_int hv7
    subst e7
    have mx0 := Int.emod_nonneg (bs ^ (3 : Int).toNat) (show p1 ≠ 0 by omega)
    have mx1 := Int.emod_lt_of_pos (bs ^ (3 : Int).toNat) p10
    generalize bs ^ (3 : Int).toNat % p1 = mx at mx0 mx1
    refine (ed_mod (K := K) (b := b) (ed_fdiv (ed_mod (ed_mul (ed_var (d := .int mx) rfl (.int mx)) (ed_add (ed_fdiv (ed_var (d := .int mx) rfl (.int mx)) ed_int ⟨by decide, by decide⟩) ed_int) (.inl ⟨by omega, by omega⟩))
      (ed_ixT (ed_var rfl (((hp4.up y5).up y6).up y7)) (ed_mod (ed_add (ed_var (d := .int st) rfl (.int st)) ed_int) ed_int (by decide)) hp2) p20) ed_int ⟨by decide, by decide⟩) (ed_var (d := .int m) rfl (.int m)) m0) H7 (Ex.refl H7) _ fun v8 H8 y8 hv8 => ?_
    refine q _ _ _ (hx4.trans (exb (((y5.trans y6).trans y7).trans y8))) ⟨gg, x, st, (((y5.trans y6).trans y7).trans y8) _ _ hb4, g0, x0, x1, s0, by omega⟩ hv8 ⟨m, _, rfl, rfl, Int.emod_nonneg _ (by omega), Int.emod_lt_of_pos _ m0⟩
end
end Wr

set_option Elab.async false
set_option linter.all false
set_option maxRecDepth 100000
set_option maxHeartbeats 4000000
namespace Wr
open PySem PySem.Spec PyProof.Rows L2 Evl
abbrev NN2 : List Str := ["_law_bag_here", "_law_many", "_law_letters", "_law_first", "_law_long", "_law_k"]
def IntB (m : Int) (d : PyData) : Prop := ∃ r, d = .int r ∧ 0 ≤ r ∧ r < m
section
variable {K : PySem.W.Frag} {b : List Addr} {a : Addr} {n m k : Nat} {σ : L2.St} {H H' : Hp} {ta tb te : TE} {t : TA} {tt : TT} {ts t1 t2 : TS} {P P' : PyData → Prop} {d : PyData}
theorem eg_takeE {i : Nat} {u : Int} {P1 : PyData → Prop} {E : XK} (ha : a ∈ b) (hb : σ[i]? = some (some (.ref a))) (h : EG K b a n (m + 1) te σ H P1) (hp : ∀ d, P1 d → ∃ j, d = .int j ∧ 0 < j ∧ j < 1073741824 ∧ j ≤ u) : EG K b a n m (tCall (spTake K) [] E (tCons (tVar i) (tCons te tNil))) σ H (IntB u) :=
  eg_call ha hb (ega_cons ha h ega_nil) (fun ds ⟨d, r, e, p, er⟩ => by
    obtain ⟨j, rfl, h1, h2, _⟩ := hp d p
    subst er
    exact ⟨j, e, h1, h2⟩) fun ds d ⟨d', r, e, p, er⟩ ⟨j, x, e1, e2, h1, h2⟩ => by
    obtain ⟨j', rfl, _, _, h3⟩ := hp d' p
    subst er
    rw [e] at e1
    have ej : j' = j := by injection e1 with e1 _; injection e1
    exact ⟨x, e2, h1, by omega⟩
theorem eg_take {i : Nat} {u : Int} {E : XK} (ha : a ∈ b) (hb : σ[i]? = some (some (.ref a))) (h0 : 0 < u) (h1 : u < 1073741824) : EG K b a (n + 1) n (tCall (spTake K) [] E (tCons (tVar i) (tCons (tC (.int u)) tNil))) σ H (IntB u) :=
  eg_takeE (P1 := fun d => d = .int u) ha hb (eg_pure (fun _ _ _ => ed_int) rfl) fun d e => ⟨u, e, h0, h1, Int.le_refl u⟩
theorem eg_ixL {P1 P2 : PyData → Prop} (ha : a ∈ b) (h1 : EG K b a n k ta σ H P1) (h2 : EG K b a k m tb σ H P2) (hi : ∀ d e, P1 d → P2 e → ∃ ds i z, d = .list ds ∧ e = .int i ∧ atI ds i = some z ∧ P z) : EG K b a n m (tOp (rIxL K) ta tb) σ H P :=
  eg_op ha h1 h2 fun d e H1 x y Q p1 p2 _ _ hx hy q => by
    obtain ⟨ds, i, z, rfl, rfl, hz, p⟩ := hi d e p1 p2
    cases hx with
    | lst g1 g2 =>
      obtain ⟨v, q1, q2⟩ := dps_atI g2 hz
      exact ⟨_, _, i, v, rfl, dq_int hy, ex_l hid_le g1, q1, q v z H1 (Ex.refl H1) q2 p⟩
theorem eg_I0 {g : Int → Int → Int} {P1 P2 : PyData → Prop} (ha : a ∈ b) (h1 : EG K b a n k ta σ H P1) (h2 : EG K b a k m tb σ H P2) (hi : ∀ d e, P1 d → P2 e → ∃ i j, d = .int i ∧ e = .int j ∧ P (.int (g i j))) : EG K b a n m (tOp (rI0 fun i j => .int (g i j)) ta tb) σ H P :=
  eg_op ha h1 h2 fun d e H1 x y Q p1 p2 _ _ hx hy q => by
    obtain ⟨i, j, rfl, rfl, p⟩ := hi d e p1 p2
    exact ⟨i, j, dq_int hx, dq_int hy, q _ _ H1 (Ex.refl H1) (.int _) p⟩
theorem intB_at {ds : List PyData} {u : Int} {d : PyData} (h : IntB u d) (hu : u ≤ ds.length) : ∃ i z, d = .int i ∧ atI ds i = some z ∧ z ∈ ds := by
  obtain ⟨r, rfl, h0, h1⟩ := h
  have hr : r.toNat < ds.length := by omega
  have e : ((r.toNat : Nat) : Int) = r := Int.toNat_of_nonneg h0
  have q := atI_nat (xs := ds) (j := r.toNat) (List.getElem?_eq_getElem hr)
  rw [e] at q
  exact ⟨r, ds[r.toNat], rfl, q, List.getElem_mem hr⟩
end
section
variable {P : Program} {w : World} {K : PySem.W.Frag} {mg : Str → Option Value} {base : Heap} {f g g2 : Addr} {fd gd gd2 : FuncData}
end
end Wr

set_option Elab.async false
set_option linter.all false
set_option maxRecDepth 100000
set_option maxHeartbeats 4000000
namespace Wr
open PySem PySem.Spec PyProof.Rows L2 Evl
/-! ### tuples made, their object known -/
abbrev tupO (its : Array Value) : Obj := { cls := .type "tuple", data := .seq its }
theorem frz_new {P : Program} {w : World} {H : Hp} {h : Heap} {xs : List V} {its : List Value} (hz : xs.length ≤ sizeLine) (r : Vals xs its) : ObjOk P w (upd H h.objs.size (.frz (tupO its.toArray) (.tup xs))) (h.push (tupO its.toArray)) h.objs.size (.frz (tupO its.toArray) (.tup xs)) :=
  ⟨Heap.get?_push_size _ rfl, hz, its, r, ⟨_, Heap.get?_push_size _ rfl, rfl, _, rfl⟩⟩
def rTupOf (K : PySem.W.Frag) : List V → Hp → VK → Prop := fun xs H Q => ∃ p ys, xs = [.ref p] ∧ SqL K H p ys ∧ ∀ l o, H l = none → o.dict = none → Q (.ref l) (upd H l (.frz o (.tup ys)))
theorem call_tupF {X : Cx} : CallR X (.type "tuple") (rTupOf X.K) := by
  intro pins s σ H xs us Q I r ⟨p, ys, e, hq, q⟩
  subst e
  obtain ⟨u, rfl, rx⟩ := vals1 r
  cases rx
  obtain ⟨its, r', pl, hz⟩ := I.list hq
  have hlen := r'.length
  refine call_tuple_list pl.isList (fun h' kp => ?_) (by simp only [List.size_toArray] <;> omega)
  have I1 : Inv X pins σ H { s with heap := h' } := I.kept (t' := s.toks) kp
  exact ⟨.ref h'.objs.size, _, I1.laid (t' := s.toks) (fun b o e => Heap.get?_push_of_some _ e) (Nat.le_refl _) (frz_new hz r'), rfl, q _ _ (I1.hok.fresh (Nat.le_refl _)) rfl⟩
def rSlF (K : PySem.W.Frag) : V → Option Int → Option Int → Hp → VK → Prop := fun x lo hi H Q => ∃ a xs, x = .ref a ∧ SqT K H a xs ∧ (xs = cutV xs lo hi → Q (.ref a) H) ∧ ∀ p o, H p = none → o.dict = none → Q (.ref p) (upd H p (.frz o (.tup (cutV xs lo hi))))
theorem sl_tupF {X : Cx} : SlR X (rSlF X.K) := by
  intro pins s σ H x v vl vu lo hi sl Q I rx hs pl pu ⟨a, xs, e, hx, q1, q2⟩
  subst e
  cases rx
  obtain ⟨its, r, ht, hz⟩ := I.tuple hx
  have hlen : its.toArray.size = xs.length := by rw [List.size_toArray]; exact r.length.symm
  refine ⟨"tuple", _, PyProof.Rows.slot_tuple_getitem.lookup, ht.typeIs, ?_⟩
  by_cases hw : HT.sIx xs.length 0 lo = 0 ∧ HT.sIx xs.length xs.length hi = xs.length
  · refine getItem_tuple_whole ht hs pl pu (by rw [hlen]; exact hw) ⟨.ref a, H, I, rfl, q1 ?_⟩
    unfold cutV
    rw [hw.1, hw.2]
    simp
  · refine HT.getItem_tuple_cut ht hs pl pu (by rw [hlen]; exact hw) ?_ (by rw [hlen]; exact hz)
    rw [hlen]
    exact ⟨.ref s.heap.objs.size, _, I.laid (t' := s.toks) (fun b ob q => Heap.get?_push_of_some _ q) (Nat.le_refl _) (frz_new (Nat.le_trans (cutV_length xs lo hi) hz) ((r.drop (HT.sIx xs.length 0 lo)).take (HT.sIx xs.length xs.length hi - HT.sIx xs.length 0 lo))), rfl, q2 _ _ (I.hok.fresh (Nat.le_refl _)) rfl⟩
def rCatF (K : PySem.W.Frag) : R2 := fun x y H Q => ∃ a b xs ys, x = .ref a ∧ y = .ref b ∧ SqT K H a xs ∧ SqT K H b ys ∧ xs.length + ys.length ≤ sizeLine ∧ (xs = [] → Q (.ref b) H) ∧ (ys = [] → Q (.ref a) H) ∧ ∀ p o, H p = none → o.dict = none → Q (.ref p) (upd H p (.frz o (.tup (xs ++ ys))))
theorem op_catF {X : Cx} : OpR X (binaryOp .Add) (rCatF X.K) := by
  intro pins s σ H x y v u Q I rx ry ⟨a, b, xs, ys, e1, e2, ha, hb, hz, q0, q1, q2⟩
  subst e1 e2
  cases rx
  cases ry
  obtain ⟨its, r1, p1, _⟩ := I.tuple ha
  obtain ⟨its2, r2, p2, _⟩ := I.tuple hb
  by_cases hx : xs = []
  · subst hx
    cases r1
    exact cat_tup0 p1 p2 ⟨.ref b, H, I, rfl, q0 rfl⟩
  · refine HT.cat_tup p1 p2 (fun z => hx (r1.nil_iff.mp z)) (fun z => ⟨.ref a, H, I, rfl, q1 (r2.nil_iff.mp z)⟩) (fun z => ?_) (by rw [← r1.length, ← r2.length]; exact hz)
    exact ⟨.ref s.heap.objs.size, _, I.laid (t' := s.toks) (fun b ob q => Heap.get?_push_of_some _ q) (Nat.le_refl _) (frz_new (by rw [List.length_append]; exact hz) (r1.append r2)), rfl, q2 _ _ (I.hok.fresh (Nat.le_refl _)) rfl⟩
/-! ### on data -/
def cutD (ds : List PyData) (lo hi : Option Int) : List PyData := (ds.drop (HT.sIx ds.length 0 lo)).take (HT.sIx ds.length ds.length hi - HT.sIx ds.length 0 lo)
theorem cut_dps {K : PySem.W.Frag} {H : Hp} {vs : List V} {ds : List PyData} (h : DdAll K H vs ds) (lo hi : Option Int) : DdAll K H (cutV vs lo hi) (cutD ds lo hi) := by
  unfold cutV cutD
  rw [dps_len h]
  exact dps_take _ (dps_drop _ h)
section
variable {K : PySem.W.Frag} {b : List Addr} {a : Addr} {n m k : Nat} {σ : L2.St} {H H' : Hp} {ta tb te : TE} {t : TA} {P : PyData → Prop} {d : PyData} {ds es : List PyData}
theorem dq_newT {p : Addr} {o : Obj} {vs : List V} (kn : Kn b H) (hp : H p = none) (ho : o.dict = none) (hd : DqAll K b H vs ds) : Dq K b (upd H p (.frz o (.tup vs))) (.ref p) (.tuple ds) := by
  have e := hid_new (o := HO.frz o (.tup vs)) (H := H) (kn.new hp)
  exact .tup (.inl (.inr ⟨_, e⟩)) (.inl ⟨_, _, e, ho⟩) (DqAll.up hd (Ex.new hp))
def EO (to : TO) (σ : L2.St) (H : Hp) (o : Option Int) : Prop := ∀ H1, Ex H H1 → ∀ Q : Option Int → Hp → Prop, (∀ H2, Ex H1 H2 → Q o H2) → to σ H1 Q
theorem eo_none : EO tNoPart σ H none := fun H1 x Q q => q H1 (Ex.refl H1)
theorem eo_some {i : Int} (h : ED K b te σ H (.int i)) : EO (tPart te) σ H (some i) := fun H1 x Q q => h H1 x _ fun v H2 x2 hv => ⟨i, dq_int hv, q H2 x2⟩
theorem ed_slT {tl th : TO} {lo hi : Option Int} (kn : Kn b H) (ha : ED K b ta σ H (.tuple ds)) (h1 : EO tl σ H lo) (h2 : EO th σ H hi) : ED K b (tSl (rSlF K) ta tl th) σ H (.tuple (cutD ds lo hi)) := fun H1 x1 Q q =>
  ha H1 x1 _ fun x H2 x2 hx => h1 H2 (x1.trans x2) _ fun H3 x3 => h2 H3 ((x1.trans x2).trans x3) _ fun H4 x4 => by
    have hx4 := (hx.up x3).up x4
    have hx5 := hx4
    cases hx5 with
    | tup g1 gn g2 =>
      have kn4 := kn.up (((x1.trans x2).trans x3).trans x4)
      refine ⟨_, _, rfl, ex_t hid_le g1, fun e => ?_, fun p o hp ho => ?_⟩
      · have e2 : DdAll K (hid b H4) _ (cutD ds lo hi) := cut_dps g2 lo hi
        rw [← e] at e2
        exact q _ H4 ((x2.trans x3).trans x4) (.tup g1 gn e2)
      · exact q _ _ (((x2.trans x3).trans x4).trans (Ex.new hp)) (dq_newT kn4 hp ho (cut_dps g2 lo hi))
/-- t + u, as a rule on data -/
theorem cat_data {x y : V} {Q : VK} (kn : Kn b H) (hx : Dq K b H x (.tuple ds)) (hy : Dq K b H y (.tuple es)) (hl : ds.length + es.length ≤ sizeLine) (q : ∀ v H2, Ex H H2 → Dq K b H2 v (.tuple (ds ++ es)) → Q v H2) : rCatF K x y H Q := by
  have hx' := hx
  have hy' := hy
  cases hx' with
  | tup g1 gn g2 =>
    cases hy' with
    | tup f1 fn f2 =>
      refine ⟨_, _, _, _, rfl, rfl, ex_t hid_le g1, ex_t hid_le f1, by rw [dps_len g2, dps_len f2]; exact hl, fun e => ?_, fun e => ?_, fun p o hp ho => ?_⟩
      · subst e
        have : ds = [] := by cases g2; rfl
        subst this
        exact q _ H (Ex.refl H) hy
      · subst e
        have : es = [] := by cases f2; rfl
        subst this
        rw [List.append_nil] at q
        exact q _ H (Ex.refl H) hx
      · exact q _ _ (Ex.new hp) (dq_newT kn hp ho (dps_app g2 f2))
theorem ed_catT (kn : Kn b H) (ha : ED K b ta σ H (.tuple ds)) (hb : ED K b tb σ H (.tuple es)) (hl : ds.length + es.length ≤ sizeLine) : ED K b (tOp (rCatF K) ta tb) σ H (.tuple (ds ++ es)) :=
  ed_op ha hb fun H1 x y Q x1 hx hy q => cat_data (kn.up x1) hx hy hl fun v H2 x2 hv => q v H2 x2 hv
theorem eg_catT {P1 P2 : PyData → Prop} (ha : a ∈ b) (h1 : EG K b a n k ta σ H P1) (h2 : EG K b a k m tb σ H P2) (hi : ∀ d e, P1 d → P2 e → ∃ ds es, d = .tuple ds ∧ e = .tuple es ∧ ds.length + es.length ≤ sizeLine ∧ P (.tuple (ds ++ es))) : EG K b a n m (tOp (rCatF K) ta tb) σ H P :=
  eg_op ha h1 h2 fun d e H1 x y Q p1 p2 _ kn1 hx hy q => by
    obtain ⟨ds, es, rfl, rfl, hl, p⟩ := hi d e p1 p2
    exact cat_data kn1 hx hy hl fun v H2 x2 hv => q v _ H2 x2 hv p
theorem eg_lst {R : List PyData → Prop} (h : EGA K b a n m t σ H R) (hl : ∀ ds, R ds → ds.length ≤ sizeLine ∧ P (.list ds)) : EG K b a n m (tLst t) σ H P := fun H1 x1 kn bg Q q =>
  h H1 x1 kn bg _ fun vs ds H2 x2 b2 hvs r => ⟨by rw [dps_len hvs]; exact (hl ds r).1, fun p hp => q _ (.list ds) _ (x2.trans (exb (Ex.new hp))) (b2.ex (Ex.new hp)) (.lst (.inl (.inl (hid_new ((x2.kn kn b2).new hp)))) (hvs.up (Ex.new hp))) (hl ds r).2⟩
/-- tuple(list) -/
theorem eg_tupOf {P1 : PyData → Prop} (h : EG K b a n m ta σ H P1) (hi : ∀ d, P1 d → ∃ ds, d = .list ds ∧ P (.tuple ds)) : EG K b a n m (tCB (rTupOf K) (tCons ta tNil)) σ H P := fun H1 x1 kn bg Q q =>
  h H1 x1 kn bg _ fun v d H2 x2 b2 hv p1 => by
    obtain ⟨ds, rfl, p⟩ := hi d p1
    cases hv with
    | lst g1 g2 =>
      refine ⟨_, _, rfl, ex_l hid_le g1, fun l o hl ho => ?_⟩
      exact q _ (.tuple ds) _ (x2.trans (exb (Ex.new hl))) (b2.ex (Ex.new hl)) (dq_newT (x2.kn kn b2) hl ho g2) p
/-- a list's beginning, how much is drawn -/
theorem eg_slL {P1 P2 : PyData → Prop} (ha : a ∈ b) (h1 : EG K b a n k ta σ H P1) (h2 : EG K b a k m te σ H P2) (hi : ∀ d e, P1 d → P2 e → ∃ ds i, d = .list ds ∧ e = .int i ∧ P (.list (cutD ds none (some i)))) : EG K b a n m (tSl (rSlL K) ta tNoPart (tPart te)) σ H P := fun H1 x1 kn bg Q q =>
  h1 H1 x1 kn bg _ fun x d H2 x2 b2 hx p1 => h2 H2 (x1.trans x2) (x2.kn kn b2) b2 _ fun y e H3 x3 b3 hy p2 => by
    obtain ⟨ds, i, rfl, rfl, p⟩ := hi d e p1 p2
    have hx3 := hx.upB ha x3
    cases hx3 with
    | lst g1 g2 =>
      have kn3 := x3.kn (x2.kn kn b2) b3
      exact ⟨i, dq_int hy, _, _, rfl, ex_l hid_le g1, fun r hr => q _ _ _ ((x2.trans x3).trans (exb (Ex.new hr))) (b3.ex (Ex.new hr)) (.lst (.inl (.inl (hid_new (kn3.new hr)))) (DqAll.up (cut_dps g2 none (some i)) (Ex.new hr))) p⟩
/-- int(truth) -/
def rInt1 : List V → Hp → VK → Prop := fun xs H Q => (∃ i, xs = [.int i] ∧ Q (.int i) H) ∨ ∃ k, xs = [.bl k] ∧ Q (.int (if k then 1 else 0)) H
theorem call_intB {X : Cx} : CallR X (.type "int") rInt1 := call_int1
theorem ed_intB {c : Bool} (ha : ED K b ta σ H (.bool c)) : ED K b (tCB rInt1 (tCons ta tNil)) σ H (.int (if c then 1 else 0)) := fun H1 x1 Q q =>
  ha H1 x1 _ fun v H2 x2 hv => .inr ⟨c, by rw [dq_bl hv], q _ H2 x2 (.int _)⟩
/-! ### hiding one more -/
theorem hide_ex {D : Addr} (hD : H D = none) : Ex (hid b H) (hid (D :: b) H) := fun c o h => by
  obtain ⟨h1, h2⟩ := hid_some h
  have : c ∉ D :: b := fun z => by
    rcases List.mem_cons.mp z with rfl | z
    · rw [hD] at h2; cases h2
    · exact h1 z
  rw [hid_ne this]
  exact h2
theorem Dq.hide {D : Addr} {v : V} (h : Dq K b H v d) (hD : H D = none) : Dq K (D :: b) H v d := dp_ex (hide_ex hD) d v h
theorem show_ex {D : Addr} : Ex (hid (D :: b) H) (hid b H) := fun c o h => by
  obtain ⟨h1, h2⟩ := hid_some h
  rw [hid_ne fun z => h1 (List.mem_cons_of_mem _ z)]
  exact h2
theorem put_ex {D : Addr} {o : HO} : Ex (hid (D :: b) H) (hid (D :: b) (upd H D o)) := fun c u h => by
  obtain ⟨h1, h2⟩ := hid_some h
  rw [hid_ne h1, upd_ne fun z => h1 (by rw [z]; exact List.mem_cons_self)]
  exact h2
/-- [.. for i in range(n)], each item drawn -/
theorem eg_lcR {i0 c N : Nat} {R : Nat → PyData → Prop} (ha : a ∈ b) (hcount : ∀ H1, ExB a H H1 → Kn b H1 → ED K b ta σ H1 (.int (N : Nat))) (hN : N ≤ 1000)
    (he : ∀ (D : Addr) (i f : Nat) (H0 H1 : Hp), i < N → ExB a H H0 → H0 D = none → ExB a H0 H1 → EG K (D :: b) a (f + c) f te ((wipe σ [i0]).set i0 (some (.int (i : Nat)))) H1 (R i)) :
    EG K b a (m + N * c) m (tLc (iRng1 (tCons ta tNil)) (gName i0) tYes te [i0]) σ H (fun d => ∃ ds, d = .list ds ∧ ds.length = N ∧ ∀ i x, ds[i]? = some x → R i x) := fun H1 x1 kn bg Q q =>
  hcount H1 x1 kn H1 (Ex.refl H1) _ fun v H2 x2 hv => by
    have e := dq_int hv
    subst e
    have hsl : sizeLine = 16777216 := sizeLine_eq
    have kn2 := kn.up x2
    have bg2 := bg.ex x2
    refine ⟨(N : Nat), rfl, by omega, by omega, fun D hD => ?_⟩
    rw [show ((N : Nat) : Int).toNat = N from rfl]
    have hDa : D ≠ a := fun z => bg2.there (z ▸ hD)
    refine lc_range (Pv := fun i H3 => ExB a H2 H3 ∧ Kn (D :: b) H3 ∧ Bag a (m + (N - i) * c) H3 ∧ ∃ acc ds, H3 D = some (.lst acc) ∧ DqAll K (D :: b) H3 acc ds ∧ ds.length = i ∧ ∀ j x, ds[j]? = some x → R j x) ?_ ?_ ?_
    · refine ⟨exb (Ex.new hD), fun z hz => ?_, ?_, [], [], upd_same, .nil, rfl, fun j x h => by simp at h⟩
      · rcases List.mem_cons.mp hz with rfl | hz
        · rw [upd_same]; intro q; cases q
        · rw [upd_ne (fun z' : z = D => kn2.new hD (by rw [← z']; exact hz))]
          exact kn2 z hz
      · rw [Nat.sub_zero]
        exact bg2.ex (Ex.new hD)
    · intro i H3 hi ⟨x3, k3, b3, acc, ds, hd3, hacc, hlen, hR⟩
      refine ⟨wipe_set1, ?_⟩
      refine et_yes (H := H3) _ (Ex.refl _) _ fun H4 x4 => ?_
      rw [if_pos rfl]
      have eN : N - i = (N - (i + 1)) + 1 := by omega
      have bb : Bag a ((m + (N - (i + 1)) * c) + c) H4 := (b3.ex x4).le (by rw [eN, Nat.add_mul]; omega)
      rw [show (0 + (i : Int)) = ((i : Nat) : Int) from Int.zero_add _]
      refine he D i (m + (N - (i + 1)) * c) H2 H4 hi (x1.trans (exb x2)) hD (x3.trans (exb x4)) H4 (ExB.refl a H4) (k3.up x4) bb _ fun y d H5 x5 b5 hy r => ?_
      have hd5 : H5 D = some (.lst acc) := x5 _ _ hDa (x4 _ _ hd3)
      have hm : a ∈ D :: b := List.mem_cons_of_mem _ ha
      refine ⟨acc, hd5, ?_, ?_, ?_, ?_, acc ++ [y], ds ++ [d], upd_same, ?_, ?_, ?_⟩
      · rw [dps_len hacc]; omega
      · intro z o hz h
        by_cases e : z = D
        · subst e; rw [hD] at h; cases h
        · rw [upd_ne e]
          exact x5 _ _ hz (x4 _ _ (x3 _ _ hz h))
      · intro z hz
        by_cases e : z = D
        · subst e; rw [upd_same]; intro q; cases q
        · rw [upd_ne e]
          exact x5.kn (k3.up x4) b5 z hz
      · obtain ⟨g, x, cc, h1, r'⟩ := b5
        exact ⟨g, x, cc, by rw [upd_ne (Ne.symm hDa)]; exact h1, r'⟩
      · exact dps_ex put_ex _ _ (dps_app (DqAll.upB hm (DqAll.up hacc x4) x5) (.cons hy .nil))
      · rw [List.length_append, hlen]; rfl
      · intro j x hj
        by_cases hjl : j < ds.length
        · rw [List.getElem?_append_left hjl] at hj
          exact hR j x hj
        · rw [List.getElem?_append_right (by omega)] at hj
          have : j - ds.length = 0 := by
            by_cases hz : j - ds.length = 0
            · exact hz
            · rw [List.getElem?_eq_none (by rw [List.length_singleton]; omega)] at hj
              cases hj
          rw [this] at hj
          have ex : d = x := Option.some.inj hj
          have ej : j = i := by omega
          rw [ej, ← ex]
          exact r
    · intro H3 ⟨x3, k3, b3, acc, ds, hd3, hacc, hlen, hR⟩
      rw [Nat.sub_self, Nat.zero_mul, Nat.add_zero] at b3
      refine q _ (.list ds) H3 ((exb x2).trans x3) b3 (.lst (.inl (.inl ?_)) (dps_ex show_ex _ _ hacc)) ⟨ds, rfl, hlen, hR⟩
      rw [hid_ne (kn2.new hD)]
      exact hd3
end
end Wr

set_option Elab.async false
set_option linter.all false
set_option maxRecDepth 100000
set_option maxHeartbeats 4000000
namespace Wr
open PySem PySem.Spec PyProof.Rows L2 Evl
def rAddT : R2 := fun x y H Q => ∃ i j, x = .str i ∧ y = .str j ∧ i.length + j.length ≤ sizeLine ∧ Q (.str (i ++ j)) H
theorem op_addT {X : Cx} : OpR X (binaryOp .Add) rAddT := op_add_str
structure Blt2 (mg : Str → Option Value) : Prop where
  abs : mg "abs" = none
  max : mg "max" = none
  min : mg "min" = none
  repr : mg "repr" = none
def rAbs : List V → Hp → VK → Prop := fun xs H Q => ∃ i, xs = [.int i] ∧ Q (.int (if i < 0 then -i else i)) H
theorem call_absB {X : Cx} : CallR X (.builtin "abs") rAbs := call_abs
def spLaw (K : PySem.W.Frag) : Sp := fun vs H Q _ => ∃ (a : Addr) (ns : List Int), vs = [.ref a] ∧ SqL K H a (ns.map V.int) ∧ ns.length ≤ 1000 ∧ ∀ H', Q (.bl true) H'
def rMax2 : List V → Hp → VK → Prop := fun xs H Q => ∃ i j, xs = [.int i, .int j] ∧ Q (.int (if j > i then j else i)) H
def rMin2 : List V → Hp → VK → Prop := fun xs H Q => ∃ i j, xs = [.int i, .int j] ∧ Q (.int (if j < i then j else i)) H
theorem cr_max2 {X : Cx} (hc : X.calm = true) : CallR X (.builtin "max") rMax2 := call_max2 hc
theorem cr_min2 {X : Cx} (hc : X.calm = true) : CallR X (.builtin "min") rMin2 := call_min2 hc
theorem hid_nil (H : Hp) : hid [] H = H := by
  funext a
  exact hid_ne (by intro z; cases z)
theorem ints_dps {K : PySem.W.Frag} {H : Hp} : ∀ ns : List Int, DdAll K H (ns.map V.int) (ns.map PyData.int)
  | [] => .nil
  | n :: ns => .cons (.int n) (ints_dps ns)
theorem ex_exb {p : Addr} {H H1 H2 : Hp} (hp : H p = none) (x : Ex H H1) (y : ExB p H1 H2) : Ex H H2 := fun c o h => y c o (fun z => by rw [z, hp] at h; cases h) (x c o h)
section
variable {K : PySem.W.Frag} {b : List Addr} {a : Addr} {n m k : Nat} {σ : L2.St} {H H' : Hp} {ta tb te : TE} {t : TA} {tt tu : TT} {ts t1 t2 : TS} {P P' : PyData → Prop} {d : PyData} {ds es : List PyData} {D : Ends}
theorem ed_addT {z y : Str} (ha : ED K b ta σ H (.str z)) (hb : ED K b tb σ H (.str y)) (hl : z.length + y.length ≤ sizeLine) : ED K b (tOp rAddT ta tb) σ H (.str (z ++ y)) :=
  ed_op ha hb fun H1 x y' Q _ hx hy q => ⟨z, y, dq_str hx, dq_str hy, hl, q _ H1 (Ex.refl H1) (.str _)⟩
theorem ed_ixS {z : Str} {i : Int} {c : Nat} (ha : ED K b ta σ H (.str z)) (hb : ED K b tb σ H (.int i)) (hl : z.length ≤ sizeLine) (hi : atI z.cps.toList i = some c) : ED K b (tOp rIxS ta tb) σ H (.str ⟨#[c]⟩) :=
  ed_op ha hb fun H1 x y Q _ hx hy q => ⟨z, i, c, dq_str hx, dq_int hy, hl, hi, q _ H1 (Ex.refl H1) (.str _)⟩
theorem g_setG {i : Nat} {P1 : PyData → Prop} (h : EG K b a n k te σ H P1) (kn : Kn b H) (bg : Bag a n H) (kk : ∀ v d H', ExB a H H' → Bag a k H' → Kn b H' → Dq K b H' v d → P1 d → ts D (σ.set i (some v)) H') : tSeq (tAsg te (gName i)) ts D σ H :=
  h H (ExB.refl a H) kn bg _ fun v d H' x bg' hv p => kk v d H' x bg' (x.kn kn bg') hv p
theorem ed_abs {i : Int} (ha : ED K b ta σ H (.int i)) : ED K b (tCB rAbs (tCons ta tNil)) σ H (.int (if i < 0 then -i else i)) := fun H1 x1 Q q =>
  ha H1 x1 _ fun v H2 x2 hv => ⟨i, by rw [dq_int hv], q _ H2 x2 (.int _)⟩
theorem g_lst {i : Nat} (kn : Kn b H) (hd : EA K b t σ H ds) (hl : ds.length ≤ sizeLine) (k : ∀ p vs H', H p = none → Ex H H' → H' p = some (.lst vs) → DqAll K b H' vs ds → ts D (σ.set i (some (.ref p))) H') : tSeq (tAsg (tLst t) (gName i)) ts D σ H :=
  hd H (Ex.refl H) _ fun vs H1 x1 hv => ⟨by rw [dps_len hv]; exact hl, fun p hp => k p vs _ (by
    cases q : H p with
    | none => rfl
    | some o => rw [x1 _ _ q] at hp; cases hp) (x1.trans (Ex.new hp)) upd_same (DqAll.up hv (Ex.new hp))⟩
theorem g_cat {i : Nat} {p : Addr} {vs : List V} (kn : Kn b H) (hs : σ[i]? = some (some (.ref p))) (hp : H p = some (.lst vs)) (hv : DqAll K b H vs ds) (he : EA K b t σ H es) (hl : ds.length + es.length ≤ sizeLine) (k : ∀ p' us H', H p' = none → Ex H H' → H' p' = some (.lst us) → DqAll K b H' us (ds ++ es) → ts D (σ.set i (some (.ref p'))) H') : tSeq (tAsg (tOp rCat (tVar i) (tLst t)) (gName i)) ts D σ H :=
  ⟨.ref p, hs, he H (Ex.refl H) _ fun ws H1 x1 hw => ⟨by rw [dps_len hw]; omega, fun p1 hp1 => ⟨p, p1, vs, ws, rfl, rfl, Ex.new hp1 _ _ (x1 _ _ hp), upd_same, by rw [dps_len hv, dps_len hw]; exact hl, fun p2 hp2 => by
    have x2 := (Ex.new (o := HO.lst ws) hp1).trans (Ex.new (o := HO.lst (vs ++ ws)) hp2)
    refine k p2 (vs ++ ws) _ ?_ (x1.trans x2) upd_same (DqAll.up (dps_app (DqAll.up hv x1) hw) x2)
    cases q : H p2 with
    | none => rfl
    | some o => rw [Ex.new hp1 _ _ (x1 _ _ q)] at hp2; cases hp2⟩⟩⟩
theorem g_app {j : Nat} {F : Addr} {vs : List V} (hσ : σ[j]? = some (some (.ref F))) (hF : H F = some (.lst vs)) (hl : vs.length < 10000000) (he : ED K b te σ H d) (kk : ∀ y H', Ex H H' → Dq K b H' y d → D.nx σ (upd H' F (.lst (vs ++ [y])))) : tDrop (tBM K "list" rAppend (tVar j) (tCons te tNil)) D σ H :=
  ⟨.ref F, hσ, .inl ⟨rfl, _, .inl (.inl hF)⟩, he H (Ex.refl H) _ fun y H' x hy => ⟨F, vs, y, rfl, rfl, x _ _ hF, by rw [sizeLine_eq]; omega, kk y H' x hy⟩⟩
theorem ed_max2 {i j : Int} (ha : ED K b ta σ H (.int i)) (hb : ED K b tb σ H (.int j)) : ED K b (tCB rMax2 (tCons ta (tCons tb tNil))) σ H (.int (if j > i then j else i)) := fun H1 x1 Q q =>
  ha H1 x1 _ fun v H2 x2 hv => hb H2 (x1.trans x2) _ fun u H3 x3 hu => ⟨i, j, by rw [dq_int hv, dq_int hu], q _ H3 (x2.trans x3) (.int _)⟩
theorem ed_min2 {i j : Int} (ha : ED K b ta σ H (.int i)) (hb : ED K b tb σ H (.int j)) : ED K b (tCB rMin2 (tCons ta (tCons tb tNil))) σ H (.int (if j < i then j else i)) := fun H1 x1 Q q =>
  ha H1 x1 _ fun v H2 x2 hv => hb H2 (x1.trans x2) _ fun u H3 x3 hu => ⟨i, j, by rw [dq_int hv, dq_int hu], q _ H3 (x2.trans x3) (.int _)⟩
theorem g_forR {D : Ends} {ts tbd : TS} {g : TG} {N : Int} (Pv : Nat → L2.St → Hp → Prop) (h : ED K b ta σ H (.int N)) (n0 : -(2 ^ 62) ≤ N) (n1 : N < 2 ^ 62) (h0 : ∀ H1, Ex H H1 → Pv 0 σ H1)
    (hs : ∀ i σ H, i < N.toNat → Pv i σ H → g (.int (0 + i)) σ H fun σ2 H2 => tbd { D with nx := Pv (i + 1), ct := Pv (i + 1), bk := ts D } σ2 H2) (hd : ∀ σ H, Pv N.toNat σ H → ts D σ H) : tSeq (tFor (iRng1 (tCons ta tNil)) g tbd) ts D σ H :=
  h H (Ex.refl H) _ fun v H1 x1 hv => by
    have e := dq_int hv
    subst e
    exact ⟨N, rfl, n0, n1, for_range Pv (h0 H1 x1) hs hd⟩
end
theorem g_forD {K : PySem.W.Frag} {b : List Addr} {a : Addr} {n m : Nat} {ta : TA} {σ : L2.St} {H : Hp} {R : List PyData → Prop} {g : TG} {tb : TS} {D : Ends} (h : EGA K b a n m ta σ H R) (kn : Kn b H) (bg : Bag a n H) (hl : ∀ ds, R ds → ds.length ≤ sizeLine)
    (k : ∀ pT vs ds H' H'', ExB a H H' → Bag a m H' → Ex H' H'' → H'' pT = some (.lst vs) → DqAll K b H' vs ds → R ds → tFor (fun _ H R => R (Itl K pT) H) g tb D σ H'') : tFor (iList K (tLst ta)) g tb D σ H :=
  h H (ExB.refl a H) kn bg _ fun vs ds H' x bg' hvs hr => ⟨by rw [dps_len hvs]; exact hl ds hr, fun pT hpT => ⟨pT, rfl, ⟨vs, .inl (.inl upd_same)⟩, k pT vs ds H' _ x bg' (Ex.new hpT) upd_same hvs hr⟩⟩
theorem g_ifOr3 {σ : L2.St} {H : Hp} {t1 t2 t3 : TT} {a c : TS} {D : Ends} (h1 : EvT t1 σ H false) (h2 : EvT t2 σ H false) (h3 : ∀ H2, Ex H H2 → t3 σ H2 fun b H1 => if b = true then a D σ H1 else c D σ H1) : tIfS (tOr t1 (tOr t2 t3)) a c D σ H := by
  refine h1 H (Ex.refl H) _ fun H1 x1 => ?_
  rw [if_neg Bool.false_ne_true]
  refine h2 H1 x1 _ fun H2 x2 => ?_
  rw [if_neg Bool.false_ne_true]
  exact h3 H2 (x1.trans x2)
theorem g_ifE {K : PySem.W.Frag} {σ : L2.St} {H : Hp} {tt : TT} {c : Bool} {t1 t2 ts : TS} {D : Ends} (hc : EvT tt σ H c) (h : ∀ H1, Ex H H1 → (if c = true then t1 { D with nx := ts D } σ H1 else t2 { D with nx := ts D } σ H1)) : tSeq (tIfS tt t1 t2) ts D σ H := hc H (Ex.refl H) _ h
theorem ps_off {X : Cx} {st : Stmt} : PS X st (fun _ _ _ => False) := ⟨fun _ _ _ _ _ _ h => h.elim⟩
structure FnG (P : Program) (w : World) (K : PySem.W.Frag) (mg : Str → Option Value) (base : Heap) (k : Nat) (f : Addr) (fd : FuncData) (ps : List Str) (sp : Sp) : Prop where
  len : ∀ vs H Q E, sp vs H Q E → vs.length = ps.length
  go : ∀ (A : Around) (outer : List Env) (s : Shared) (H : Hp) (args : Args) (us : List Value) (vs : List V) (Q : VK) (E : XK), A.guards = some [] → Room k A → Env0 P w K mg base A outer s H → BindsTo s fd args (ps.zip us) → Vals vs us → sp vs H Q E →
    codeAny (model P w) A (.call (.ref f) args) (CR CX0 outer P w H s Q E) s
theorem deeper_guards {A : Around} {env : Env} (h : A.guards = some []) : (A.deeper env).guards = some [] := by
  first
    | exact h
    | simpa [Around.deeper] using h
section
variable {X : Cx} {k : Nat} {f : Addr} {fd : FuncData} {ps : List Str} {sp : Sp} {x : Str} {st : Stmt} {p pos : Pos} {e : Expr} {es : List Expr} {t : TA}
theorem pe_cdG (D : Def X.K X.mg x st ps f fd) (G : FnG X.prog X.w X.K X.mg X.base k f fd ps sp) (hg : X.A.guards = some []) (hr : Room k X.A) (ha : PA X (e :: es) t) (hgl : Gl X x := by rfl) (hdb : (x == ("__debug__" : Str)) = false := by decide)
    (he : starEach (e :: es) X.env = (false, eval e X.env) :: starEach es X.env := by rfl) (hpl : (backTo pos (starEach es X.env)).any (·.1) = false := by rfl) : PE X (.Call (.Name x p) (e :: es) [] pos) (tCall sp [] E0 t) :=
  ⟨fun pins s σ H Q I h => wpAny_Call_Name_kw (ld_glob I hgl D.m (PySem.W.callWith_K (h₀ := X.base) I.ok.mod.kin D.F.kp (thn (ha.run pos pins s σ H _ I h) fun us s1 ⟨vs, H1, I1, r, q⟩ => ⟨I1.kIn, by
    have q : sp (vs ++ []) H1 Q E0 := q
    rw [List.append_nil] at q
    have hl : (us ++ []).length = ps.length := by rw [List.append_nil, ← r.length]; exact G.len _ _ _ _ q
    have hb := D.b s1 us I1.kIn hl
    rw [List.append_nil] at hb
    refine wpAny_call (codeAny_mono (G.go X.A X.stack s1 H1 ⟨us, []⟩ us vs Q E0 hg hr I1.env0 hb r q) fun res s' hq => ?_)
    rcases res with e' | fl
    · exact hq.elim
    · rcases fl with _ | _ | _ | u
      all_goals first | exact I1.after hq | exact False.elim hq⟩) he hpl) hdb)⟩
end
section
variable {P : Program} {w : World} {K : PySem.W.Frag} {mg : Str → Option Value} {base : Heap}
/-- a def by its body, called where nothing is being shown -/
theorem Def.okG {x : Str} {st : Stmt} {f : Addr} {fd : FuncData} {N ps : List Str} {k : Nat} {sp : Sp} (D : Def K mg x st ps f fd) (S : FnScope N ps (defScope st)) (len : ∀ vs H Q E, sp vs H Q E → vs.length = ps.length)
    (hbody : ∀ (cdv : Value) (A : Around) (outer : List Env) (s : Shared) (H : Hp) (vs : List V) (Q : VK) (E : XK), (A.deeper (envOfC x (defScope st) s.heap.objs.size f cdv)).guards = some [] → Room k (A.deeper (envOfC x (defScope st) s.heap.objs.size f cdv)) → sp vs H Q E →
      ∃ t, PSs (cxOf CX0 P w K mg base N x (defScope st) f cdv A outer s H E).nox (defBody st) t ∧ t { nx := fun _ H' => Q .non H', rt := Q } (start N vs) H) : FnG P w K mg base (k + 1) f fd ps sp := by
  obtain ⟨oc, od, kV, doc, pm, an, cdv, ct, osl, rfl, lk, hcd⟩ := D.F.ex
  refine ⟨len, fun A outer s H args us vs Q E hgu hr e0 hb rv hsp => ?_⟩
  have keep := fun b o e => (e0.bs b o e).1
  have inS := e0.mod.kin.keeps keep
  refine codeAny_call_function hr.depth (inS _ _ lk) rfl S.co S.gen rfl (PySem.W.codeRec_of inS hcd) (hb _ _ _ _ (wpAny_newFunctionEnv_cells S.kind (fun y hy => ?_) fun env he s1 ic => ?_))
  · rcases S.par y.1 (List.of_mem_zip hy).1 with z | z
    · exact Or.inl z
    · exact Or.inr ⟨z, PySem.W.cellsFrom_some _ _ _ (Or.inl z)⟩
  · subst he
    refine ⟨(e0.mod.nolimit.keeps keep).keeps ic.toInCall.keep, codeAny_func ?_⟩
    obtain ⟨t, ht, hq⟩ := hbody cdv A outer s H vs Q E (deeper_guards hgu) (hr.deeper _) hsp
    have I := inv_start (CX := CX0) (mg := mg) (E := E) S hr.hd e0 (len _ _ _ _ hsp) rv ic
    refine wpAny_mono (ht.nox.run [] s1 _ H _ I hq) (fun fl s' hs => ?_) fun _ _ hs => hs
    rcases fl with _ | _ | _ | u
    all_goals first
      | (obtain ⟨v, σ', H', J, r', q'⟩ := hs; exact ⟨v, H', J.os, J.bare, J.base, J.hok, r', q'⟩)
      | (obtain ⟨σ', H', J, q'⟩ := hs; exact ⟨V.non, H', J.os, J.bare, J.base, J.hok, rfl, q'⟩)
      | (obtain ⟨_, _, _, q'⟩ := hs; exact False.elim q')
end
/-! ### the law called where nothing is being shown -/
abbrev lstO (vs : List Value) : Obj := { cls := .type "list", data := .seq vs.toArray }
section
variable {P : Program} {w : World} {K : PySem.W.Frag} {mg mb : Str → Option Value} {k : Nat} {fa a : Addr} {fd : FuncData} {x : Str} {sp : Sp} {s : Shared} {vs : List Value} {ns : List Int}
/-- what the call leaves -/
def Left (s : Shared) (r : Result) (s' : Shared) : Prop := r = .ok (.ret (.bool true)) ∧ OldK s.heap s'.heap ∧ s'.os = s.os ∧ AllBare s'.gens
theorem law_from {H : Hp} (KX : K.In s.heap) (hm : s.heap.Ns mainGlobals mg) (hb : s.heap.Ns builtinsNs mb) (hbb : ∀ x : Str, x ≠ "__name__" → mb x = bootBuiltins x) (hlim : s.heap.NoLimit) (hge : s.gens = #[]) (ha : s.heap.get? a = some (lstO vs)) (hr : Room k callerA)
    (F : ∀ base : Heap, K.In base → base.Ns mainGlobals mg → FnG P w K mg base k fa fd [x] sp) (hbind : ∀ (s : Shared) (u : Value), BindsTo s fd ⟨[u], []⟩ [(x, u)]) (hsp : sp [.ref a] H (fun v _ => v = .bl true) fun _ _ _ => False) (hok : HOk P w H s.heap)
    (hA : ∀ c, H c = none ∨ (c = a ∧ K.lookup c = none ∧ ∃ xs, H c = some (.frz (lstO vs) (.lst xs)))) : codeAny (model P w) callerA (.call (.ref fa) ⟨[.ref a], []⟩) (Left s) s := by
  have nsOf : ∀ {c : Addr} {m : Str → Option Value}, s.heap.Ns c m → (hidT s.heap H).Ns c m := fun {c m} ⟨o, es, ep, e, d, r⟩ => by
    refine ⟨o, es, ep, hidT_get e ?_, d, r⟩
    rcases hA c with z | ⟨rfl, _⟩
    · exact z
    · rw [ha] at e
      cases e
      cases d
  have inB : K.In (hidT s.heap H) := fun c o e => hidT_get (KX c o e) (by
    rcases hA c with z | ⟨_, z, _⟩
    · exact z
    · rw [z] at e; cases e)
  have hM : Mod K mg (hidT s.heap H) := ⟨inB, nsOf hm, ⟨mb, nsOf hb, hbb⟩, let ⟨mc, h1, h2⟩ := hlim; ⟨mc, nsOf h1, h2⟩⟩
  have env : Env0 P w K mg (hidT s.heap H) callerA [] s H := ⟨rfl, hM, fun _ _ e => of_hidT e, Nat.le_of_eq (hidT_size _ _), trivial, (fun _ z => nomatch z), hok, .of_eq hge⟩
  refine codeAny_mono ((F _ inB (nsOf hm)).go callerA [] s H ⟨[.ref a], []⟩ [.ref a] [.ref a] _ _ rfl hr env (hbind s (.ref a)) (.cons rfl .nil) hsp) fun r s' h => ?_
  rcases r with e | fl
  · exact h.elim
  rcases fl with _ | _ | _ | u
  all_goals try exact False.elim h
  obtain ⟨v, H', os, bare, un, hok', r', q⟩ := h
  have q : v = .bl true := q
  subst q
  obtain rfl : u = Value.bool true := r'
  refine ⟨rfl, OldK.of_keep fun c o e => ?_, os, bare⟩
  rcases hA c with z | ⟨rfl, _, xs, z⟩
  · exact un.keep c o e z (fun y => nomatch y) (by simp)
  · obtain ⟨g1, _⟩ := hok c _ z
    obtain ⟨g2, _⟩ := hok' c _ (un.frzs c _ _ z)
    rw [e] at g1
    cases g1
    exact g2
theorem law_goG (KX : K.In s.heap) (hm : s.heap.Ns mainGlobals mg) (hb : s.heap.Ns builtinsNs mb) (hbb : ∀ x : Str, x ≠ "__name__" → mb x = bootBuiltins x) (hlim : s.heap.NoLimit) (hge : s.gens = #[]) (ha : s.heap.get? a = some (lstO vs)) (hi : IntsAre vs ns) (hl : ns.length ≤ sizeLine) (hr : Room k callerA)
    (F : ∀ base : Heap, K.In base → base.Ns mainGlobals mg → FnG P w K mg base k fa fd [x] sp) (hbind : ∀ (s : Shared) (u : Value), BindsTo s fd ⟨[u], []⟩ [(x, u)]) (hsp : ∀ H : Hp, SqL K H a (ns.map V.int) → sp [.ref a] H (fun v _ => v = .bl true) fun _ _ _ => False) : codeAny (model P w) callerA (.call (.ref fa) ⟨[.ref a], []⟩) (Left s) s := by
  have rv := vals_ints hi
  have ln := hi.length
  cases hk : K.lookup a with
  | some o =>
    have e := KX a o hk
    rw [ha] at e
    cases e
    refine law_from (H := fun _ => none) KX hm hb hbb hlim hge ha hr F hbind (hsp _ (.inr ⟨_, vs.toArray, _, hk, rfl, rfl, rfl, ?_, by simpa using rv⟩)) (fun c u z => nomatch z) fun _ => .inl rfl
    rw [List.size_toArray, ln]
    exact hl
  | none =>
    have at_a : (fun c => if c = a then some (HO.frz (lstO vs) (.lst (ns.map V.int))) else none : Hp) a = some (.frz (lstO vs) (.lst (ns.map V.int))) := if_pos rfl
    refine law_from (H := fun c => if c = a then some (.frz (lstO vs) (.lst (ns.map V.int))) else none) KX hm hb hbb hlim hge ha hr F hbind (hsp _ (.inl (.inr ⟨_, at_a⟩))) (fun c u z => ?_) fun c => ?_
    · by_cases e : c = a
      · subst e
        rw [at_a] at z
        cases z
        exact ⟨ha, by rw [List.length_map]; exact hl, vs, _, rv, ha⟩
      · have z' := (if_neg e).symm.trans z
        cases z'
    · by_cases e : c = a
      · subst e
        exact .inr ⟨rfl, hk, _, at_a⟩
      · exact .inl (if_neg e)
end

/-- a def that may raise, where it raises nothing -/
theorem FnOk.calm {P : Program} {w : World} {K : PySem.W.Frag} {mg : Str → Option Value} {base : Heap} {k : Nat} {f : Addr} {fd : FuncData} {ps : List Str} {sp : Sp} (F : FnOk P w K mg base (L2.CX P w) k f fd ps sp) : FnOk P w K mg base CX0 k f fd ps (fun vs H Q _ => sp vs H Q fun _ _ _ => False) :=
  ⟨fun vs H Q E h => F.len vs H Q _ h, fun A outer s H args us vs Q E hr e0 hb rv hsp => codeAny_mono (F.run A outer s H args us vs Q _ hr e0 hb rv hsp) fun r s' h => by
    rcases r with e | fl
    · obtain ⟨_, _, _, _, _, _, _, _, _, _, _, _, z⟩ := h
      exact z.elim
    · rcases fl with _ | _ | _ | u
      all_goals exact h⟩
end Wr

set_option Elab.async false
set_option linter.all false
set_option maxRecDepth 100000
set_option maxHeartbeats 4000000
namespace Wr
open PySem PySem.Spec PyProof.Rows L2 Evl
abbrev s_check : Stmt := topS 24
abbrev s_hook : Stmt := topS 27
abbrev s_can : Stmt := topS 28
abbrev s_kinds : Stmt := topS 29
abbrev s_where : Stmt := topS 30
theorem sc_check : FnScope ["thing"] ["thing"] (defScope s_check) := ⟨rfl, rfl, rfl, by decide +kernel, rfl, by decide +kernel, by decide +kernel⟩
abbrev NHk : List Str := ["program", "thing", "name", "kinds", "where", "hooking", "part"]
theorem sc_hook : FnScope ["program", "thing"] ["program", "thing"] (defScope s_hook) := ⟨rfl, rfl, rfl, by decide +kernel, rfl, by decide +kernel, by decide +kernel⟩
theorem sc_can : FnScope NHk ["program", "thing"] (defScope s_can) := ⟨rfl, rfl, rfl, by decide +kernel, rfl, by decide +kernel, by decide +kernel⟩
abbrev NKi : List Str := ["thing", "kind"]
theorem sc_kinds : FnScope NKi ["thing"] (defScope s_kinds) := ⟨rfl, rfl, rfl, by decide +kernel, rfl, by decide +kernel, by decide +kernel⟩
abbrev NWh : List Str := ["program", "thing", "name", "first", "last", "part"]
theorem sc_where : FnScope NWh ["program", "thing"] (defScope s_where) := ⟨rfl, rfl, rfl, by decide +kernel, rfl, by decide +kernel, by decide +kernel⟩
/-! ### hooks as data -/
def kindW : List Str := ["call", "row", "back", "fault", "caught"]
theorem kindW_ok : kindW.all PyData.strOk = true := by decide +kernel
def kindsD (d : PyData) : Bool := match d with
  | .tuple ds => (decide (1 ≤ ds.length) && decide (ds.length ≤ 5)) && (ds.all (fun z => inD z (kindW.map .str)) && unlikeS (strsOf ds))
  | _ => false
def leD (c e : PyData) : Bool := match c, e with
  | .int i, .int j => decide (i ≤ j)
  | _, _ => false
def snd2 (d : PyData) : PyData := match d with
  | .tuple (_ :: a :: _) => a
  | _ => .none
def whereD (ns : List Str) (d : PyData) : Bool := match d with
  | .none => true
  | .tuple [a, c, e] => inD a (ns.map .str) && (indexD c 60 && (indexD e 60 && leD c e))
  | _ => false
def namesP (ds : List PyData) : List Str := strsOf (ds.map fst)
def hookN (ds : List PyData) : List Str := strsOf ((ds.filter fun p => PyData.eqv (.int (lenD (snd2 p) : Nat)) (.int 3)).map fst)
def hookD (ds : List PyData) (d : PyData) : Bool := match d with
  | .tuple [a, c, e] => inD a ((hookN ds).map .str) && (kindsD c && whereD (namesP ds) e)
  | _ => false
def isN (d : PyData) : Bool := match d with
  | .none => true
  | _ => false
/-! ### what a program's parts are -/
def PartsOk (ds : List PyData) : Prop := ds.length ≤ 8 ∧ 1 ≤ ds.length ∧ ∀ p ∈ ds, ∃ x cs r, p = .tuple [.str x, .tuple cs, r] ∧ PyData.strOk x = true ∧ x.length ≤ 8
theorem namesD_tup {d : PyData} (h : namesD d = true) : ∃ cs, d = .tuple cs := by
  cases d <;> first | exact ⟨_, rfl⟩ | cases h
theorem parts_ok {ds : List PyData} (h : progD (.tuple ds) = true) (hok : okD 30 (.tuple ds) = true) : PartsOk ds := by
  have h' : (headedAll (.tuple ds) 8 && ds.all fun p => rowsD (thd p) (strsOf (ds.map fst))) = true := h
  rw [Bool.and_eq_true] at h'
  have h2 : ((decide (1 ≤ ds.length) && decide ((ds.length : Int) ≤ 8)) && (ds.all headedD && unlikeS (strsOf (ds.map fst)))) = true := h'.1
  rw [Bool.and_eq_true, Bool.and_eq_true, Bool.and_eq_true] at h2
  refine ⟨?_, of_decide_eq_true h2.1.1, fun p hp => ?_⟩
  · have := of_decide_eq_true h2.1.2
    omega
  · obtain ⟨a, c, e, rfl, h4, h5⟩ := headed_fst (List.all_eq_true.mp h2.2.1 p hp)
    obtain ⟨x, rfl⟩ := isD_str (nameD_str h4)
    obtain ⟨cs, rfl⟩ := namesD_tup h5
    have h6 : okD 29 (.tuple [.str x, .tuple cs, e]) = true := ok_items hok _ hp
    have h7 : okD 28 (.str x) = true := ok_items (n := 28) h6 _ List.mem_cons_self
    have h8 : (PyData.strOk x && decide (x.length ≤ 1000)) = true := h7
    have h9 : nameS x = true := h4
    unfold nameS at h9
    rw [Bool.and_eq_true] at h8 h9
    exact ⟨x, cs, e, rfl, h8.1, of_decide_eq_true h9.1⟩
section
variable {ds : List PyData}
theorem PartsOk.fstS (h : PartsOk ds) : ∀ {es : List PyData}, (∀ p ∈ es, p ∈ ds) → (strsOf (es.map fst)).map PyData.str = es.map fst ∧ (strsOf (es.map fst)).all PyData.strOk = true := fun {es} hs => by
  have hst : (es.map fst).all (isD "str") = true := List.all_eq_true.mpr fun x hx => by
    obtain ⟨e, he, rfl⟩ := List.mem_map.mp hx
    obtain ⟨x, cs, r, rfl, _⟩ := h.2.2 e (hs e he)
    rfl
  have e1 := map_strsOf hst
  refine ⟨e1, List.all_eq_true.mpr fun y hy => ?_⟩
  have hm : PyData.str y ∈ es.map fst := by
    rw [← e1]
    exact List.mem_map.mpr ⟨y, hy, rfl⟩
  obtain ⟨p, hp, e⟩ := List.mem_map.mp hm
  obtain ⟨x, cs, r, rfl, hx, _⟩ := h.2.2 p (hs p hp)
  have e2 : PyData.str x = .str y := e
  injection e2 with e2
  rw [← e2]
  exact hx
theorem PartsOk.names (h : PartsOk ds) : (namesP ds).map PyData.str = ds.map fst ∧ (namesP ds).all PyData.strOk = true := h.fstS fun _ h => h
theorem PartsOk.hooks (h : PartsOk ds) : (hookN ds).map PyData.str = (ds.filter fun p => PyData.eqv (.int (lenD (snd2 p) : Nat)) (.int 3)).map fst ∧ (hookN ds).all PyData.strOk = true := h.fstS fun p hp => (List.mem_filter.mp hp).1
end
section
variable {K : PySem.W.Frag} {b : List Addr} {σ : L2.St} {H H' : Hp} {ta tb te : TE} {d : PyData} {ds : List PyData}
theorem ed_isN (ha : ED K b ta σ H d) : ED K b (tIsN ta) σ H (.bool (isN d)) := fun H1 x1 Q q =>
  ha H1 x1 _ fun v H2 x2 hv => by
    have e : decide (v = .non) = isN d := by
      cases hv <;> first | rfl | exact decide_eq_false (fun z => nomatch z)
    rw [e]
    exact q _ H2 x2 (.bl _)
end
theorem in_strs {d : PyData} {xs : List Str} (h : inD d (xs.map .str) = true) : isD "str" d = true := by
  obtain ⟨z, hz, e⟩ := List.any_eq_true.mp h
  obtain ⟨x, _, rfl⟩ := List.mem_map.mp hz
  cases d <;> first | rfl | (simp only [PyData.eqv] at e; cases e)
section
variable {P : Program} {w : World} {K : PySem.W.Frag} {mg : Str → Option Value} {base : Heap} {f g g2 g3 aK : Addr} {fd gd gd2 gd3 : FuncData}
theorem ok_kinds (D : Def K mg "are_kinds" s_kinds ["thing"] f fd) (D2 : Def K mg "are_unlike" s_are_unlike ["names"] g2 gd2) (B : Blt mg) (mK : mg "KINDS" = some (.ref aK)) (kK : ∀ H, SqT K H aK (kindW.map V.str) ∧ TN K H aK) :
    FnOk P w K mg base CX0 2 f fd ["thing"] (spP K (fun ds => ds.length = 1 ∧ ∀ d, ds = [d] → okD 30 d = true) (F1 kindsD)) := by
  refine D.F.ok sc_kinds (fun vs H Q E h => spP_len (fun _ h => h.1) h) (fun cdv A outer s H vs Q E hr h => ?_)
  obtain ⟨b, ds, kn, hd, ⟨hp, hok⟩, q⟩ := h
  obtain ⟨v, d, rfl, rfl, h1⟩ := one_of hd hp
  have hok := hok d rfl
  refine ⟨_, pss_cons (ps_if (PW.pt (pw_or (pt_not (pt_val (pe_callB call_isi rfl B.isi bb_isinstance (pa_cons (pv 0) (pa_cons (pe_tyN rfl B.tuple bt_tuple) pa_nil)))))
      (pw_or1 (pt_not (pt_chain op_le op_le pe_int (pe_callB call_lenD1 rfl B.len bb_len (pa_cons (pv 0) pa_nil)) (pe_callB call_lenD1 rfl B.len bb_len (pa_cons (pe_gR mK) pa_nil))))))) (pss_one (ps_ret pe_bl)) pss_nil)
    (pss_one (ps_ret (pe_and (pe_callB (cr_all rfl) rfl B.all bb_all (pa_cons
      (pe_lc (own := [("kind", 1)]) (g := gName 1) (tt := tYes) rfl sc_kinds.nd (pi_tup (pv 0)) (blkOk_by (N := NKi) (sc := defScope s_kinds) (by decide +kernel)) (fun _ _ _ _ _ => pg_name (i := 1) sc_kinds.nd rfl (Or.inl rfl)) (fun _ _ _ _ _ => pts_nil)
        (fun _ _ _ _ _ => pe_cmpR (r := rInT K false) (op_inT (hu65 hr)) (pv 1) (pe_gR mK) rfl)) pa_nil))
      (pe_one (pe_cd D2 (ok_are_unlike D2 B) hr (pa_cons (pv 0) pa_nil)))))), ?_⟩
  have t1 := et_n (et_b (ed_isi (K := K) (b := b) (σ := start NKi [v]) (H := H) (T := "tuple") (.inr (.inr (.inr (.inl rfl)))) (ed_var (i := 0) rfl h1)))
  cases hs : isD "tuple" d with
  | false =>
    rw [hs] at t1
    refine SR.fin ((sr_if (e := .none) (et_or (b := false) t1 fun h => nomatch h) (fun _ => sr_ret ed_bl) fun h => nomatch h).to ?_) q
    have : kindsD d = false := by
      cases d <;> first | rfl | (simp [isD, dTy, tyIs] at hs)
    show PyData.bool false = .bool (kindsD d)
    rw [this]
  | true =>
    obtain ⟨ds, rfl⟩ := isD_tuple hs
    rw [hs] at t1
    have hlen := ok_len hok
    have okx : ∀ e ∈ ds, okD 30 e = true := fun e he => ok_up (ok_items (n := 29) hok e he) (by omega)
    have lK := ed_len (K := K) (b := b) (σ := start NKi [v]) (H := H) (ed_words kK) (.inr (.inr rfl)) fun y e => by cases e
    have tl := et_or t1 fun _ => et_n (et_t (ed_chain (K := K) (b := b) (g := fun i j => decide (i ≤ j)) (g' := fun i j => decide (i ≤ j)) (ed_int (i := 1)) (ed_len (ed_var (i := 0) rfl h1) (.inr (.inr hs)) fun y e => by cases e) lK))
    refine SR.fin ((sr_if tl (fun _ => sr_ret ed_bl) fun hc => sr_ret (ed_andB (k := unlikeS (strsOf ds)) (ed_allT (g := fun z => inD z (kindW.map .str)) kn (ed_var rfl h1) hlen fun e v' H3 he x3 hv => ed_inT (ed_var rfl hv) (ed_words kK) (ok_shaped (okx e he)) (sh_strs kindW_ok).1) fun ha => ?_)).to ?_) q
    · have e1 := map_strsOf (ds := ds) (List.all_eq_true.mpr fun z hz => in_strs (List.all_eq_true.mp ha z hz))
      refine (ed_call (K := K) (f := F1 unlikeD) kn (ea_cons (ed_var (i := 0) rfl h1) ea_nil) ?_).to rfl
      refine ⟨rfl, fun e' h' => ?_⟩
      cases h'
      exact ⟨strsOf ds, Nat.le_trans strsOf_len hlen, .inr (by rw [e1])⟩
    · show _ = PyData.bool ((decide (1 ≤ ds.length) && decide (ds.length ≤ 5)) && (ds.all (fun z => inD z (kindW.map .str)) && unlikeS (strsOf ds)))
      have e1 : decide ((1 : Int) ≤ (lenD (.tuple ds) : Nat)) = decide (1 ≤ ds.length) := by
        show decide ((1 : Int) ≤ (ds.length : Nat)) = _
        by_cases h : 1 ≤ ds.length
        · rw [decide_eq_true h, decide_eq_true (by omega)]
        · rw [decide_eq_false h, decide_eq_false (by omega)]
      have e2 : decide (((lenD (.tuple ds) : Nat) : Int) ≤ (lenD (.tuple (kindW.map PyData.str)) : Nat)) = decide (ds.length ≤ 5) := by
        show decide (((ds.length : Nat) : Int) ≤ ((5 : Nat) : Int)) = _
        by_cases h : ds.length ≤ 5
        · rw [decide_eq_true h, decide_eq_true (by omega)]
        · rw [decide_eq_false h, decide_eq_false (by omega)]
      rw [e1, e2]
      show (if (!(decide (1 ≤ ds.length) && decide (ds.length ≤ 5))) = true then _ else _) = _
      cases (decide (1 ≤ ds.length) && decide (ds.length ≤ 5)) <;> rfl
end
end Wr

set_option Elab.async false
set_option linter.all false
set_option maxRecDepth 100000
set_option maxHeartbeats 4000000
namespace Wr
open PySem PySem.Spec PyProof.Rows L2 Evl
def itT (d : PyData) : List PyData := match d with
  | .tuple ds => ds
  | _ => []
def WhPre (ds : List PyData) : Prop := ds.length = 2 ∧ ∀ p d, ds = [p, d] → (∃ ps, p = .tuple ps ∧ PartsOk ps) ∧ okD 30 d = true
theorem isN_not {d : PyData} (h : isN d = true) : d = .none := by
  cases d <;> first | rfl | cases h
theorem indexD_int {d : PyData} {n : Int} (h : indexD d n = true) : ∃ i, d = .int i := by
  cases d <;> first | exact ⟨_, rfl⟩ | cases h
section
variable {P : Program} {w : World} {K : PySem.W.Frag} {mg : Str → Option Value} {base : Heap} {f g g2 g3 aK : Addr} {fd gd gd2 gd3 : FuncData}
theorem ok_where (D : Def K mg "is_where" s_where ["program", "thing"] f fd) (D1 : Def K mg "is_index" s_is_index ["thing", "many"] g gd) (G1 : FnOk P w K mg base CX0 2 g gd ["thing", "many"] (spP K (fun ds => ds.length = 2 ∧ ∀ d n, ds = [d, n] → ∃ i, n = .int i) (F2 fun d n => indexD d (intOf n)))) (B : Blt mg) {t : Tok} (mM : mg "MOST_PART_ROWS" = some (.int 60 t)) :
    FnOk P w K mg base CX0 3 f fd ["program", "thing"] (spP K WhPre (F2 fun p d => whereD (namesP (itT p)) d)) := by
  refine D.F.ok sc_where (fun vs H Q E h => spP_len (fun _ h => h.1) h) (fun cdv A outer s H vs Q E hr h => ?_)
  obtain ⟨b, ds, kn, hd, ⟨hp, hp2⟩, q⟩ := h
  obtain ⟨v, v2, p, d, rfl, rfl, h1, h2⟩ := two_of hd hp
  obtain ⟨⟨ps, rfl, pok⟩, hok⟩ := hp2 p d rfl
  refine ⟨_, pss_cons (ps_if (pt_cmp (pc_isN (pv 1))) (pss_one (ps_ret pe_bl)) pss_nil)
    (pss_cons (ps_if (PW.pt (pw_or (pt_not (pt_val (pe_callB call_isi rfl B.isi bb_isinstance (pa_cons (pv 1) (pa_cons (pe_tyN rfl B.tuple bt_tuple) pa_nil)))))
      (pw_or1 (pt_cmpR (op_neD (hu64 hr)) (pe_callB call_lenD1 rfl B.len bb_len (pa_cons (pv 1) pa_nil)) pe_int (nomark _))))) (pss_one (ps_ret pe_bl)) pss_nil)
    (pss_cons (ps_asg (pv 1) (pg_tup rfl (pgs_cons (pg_name (i := 2) sc_where.nd rfl (Or.inl rfl)) (pgs_cons (pg_name (i := 3) sc_where.nd rfl (Or.inl rfl)) (pgs_cons (pg_name (i := 4) sc_where.nd rfl (Or.inl rfl)) pgs_nil)))))
    (pss_cons (ps_if (pt_cmpR (op_notInD (hu65 hr)) (pv 2) (pe_lc (own := [("part", 5)]) (g := gName 5) (tt := tYes) rfl sc_where.nd (pi_tup (pv 0)) (blkOk_by (N := NWh) (sc := defScope s_where) (by decide +kernel)) (fun _ _ _ _ _ => pg_name (i := 5) sc_where.nd rfl (Or.inl rfl)) (fun _ _ _ _ _ => pts_nil)
      (fun _ _ _ _ _ => pe_ix (r := rIxT K) ix_tup (pv 5) pe_int (fun _ _ => rfl))) rfl) (pss_one (ps_ret pe_bl)) pss_nil)
    (pss_one (ps_ret (pe_and (pe_cd D1 G1 hr (pa_cons (pv 3) (pa_cons (pe_gI mM) pa_nil))) (pe_and (pe_cd D1 G1 hr (pa_cons (pv 4) (pa_cons (pe_gI mM) pa_nil))) (pe_one (pe_cmpR op_le (pv 3) (pv 4) (nomark _)))))))))), ?_⟩
  have t0 := et_b (ed_isN (K := K) (b := b) (σ := start NWh [v, v2]) (H := H) (ed_var (i := 1) rfl h2))
  cases hN : isN d with
  | true =>
    rw [hN] at t0
    have e := isN_not hN
    subst e
    exact SR.fin ((sr_if (e := .none) t0 (fun _ => sr_ret ed_bl) fun h => nomatch h).to rfl) q
  | false =>
  rw [hN] at t0
  have t1 := et_n (et_b (ed_isi (K := K) (b := b) (σ := start NWh [v, v2]) (H := H) (T := "tuple") (.inr (.inr (.inr (.inl rfl)))) (ed_var (i := 1) rfl h2)))
  cases hs : isD "tuple" d with
  | false =>
    rw [hs] at t1
    refine SR.fin ((sr_if (d := .none) t0 (fun h => nomatch h) fun _ => sr_if (e := .none) (et_or (b := false) t1 fun h => nomatch h) (fun _ => sr_ret ed_bl) fun h => nomatch h).to ?_) q
    have : whereD (namesP ps) d = false := by
      cases d <;> first | rfl | exact absurd hN (by decide) | (simp [isD, dTy, tyIs] at hs)
    show PyData.bool false = .bool (whereD (namesP ps) d)
    rw [this]
  | true =>
    obtain ⟨ds, rfl⟩ := isD_tuple hs
    rw [hs] at t1
    have okx : ∀ e ∈ ds, okD 30 e = true := fun e he => ok_up (ok_items (n := 29) hok e he) (by omega)
    have t2 := et_or t1 fun _ => et_t (ed_ne (K := K) (b := b) (σ := start NWh [v, v2]) (ed_len (ed_var (i := 1) rfl h2) (.inr (.inr hs)) fun y e => by cases e) (ed_int (i := 3)) (sh_int _) (sh_int _))
    rw [eqv_int] at t2
    by_cases h3 : ds.length = 3
    · obtain ⟨x, y, z, rfl⟩ : ∃ x y z, ds = [x, y, z] := by
        match ds, h3 with
        | [x, y, z], _ => exact ⟨x, y, z, rfl⟩
      have hl8 := pok.1
      have lcs : ∀ (v3 v4 v5 : V) (H' : Hp), Ex H H' → ED K b (tLc (iTup K (tVar 0)) (gName 5) tYes (tOp (rIxT K) (tVar 5) (tC (.int 0))) [5]) [some v, some v2, some v3, some v4, some v5, none] H' (.list ((namesP ps).map .str)) := fun v3 v4 v5 H' x' => by
        have lc := ed_lcT1 (K := K) (b := b) (te := tOp (rIxT K) (tVar 5) (tC (.int 0))) (k := 5) (f := fst) (kn.up x') (ed_var (σ := [some v, some v2, some v3, some v4, some v5, none]) (i := 0) rfl (Dq.up h1 x')) (Nat.lt_of_le_of_lt hl8 (by decide)) (fun e v' H3 he x3 hv => by
          obtain ⟨x, cs, r, rfl, _⟩ := pok.2.2 e he
          exact ed_ixT (ed_var rfl hv) ed_int (atI0 _ _)) (fun e he => by
          obtain ⟨x, cs, r, rfl, _⟩ := pok.2.2 e he
          rfl)
        rw [← pok.names.1] at lc
        exact lc
      refine SR.fin ((sr_if (d := .none) t0 (fun h => nomatch h) fun _ => sr_if (d := .none) t2 (fun h => nomatch h) fun _ => sr_unpack3 (d := .bool (whereD (namesP ps) (.tuple [x, y, z]))) (ed_var rfl h2) fun v3 v4 v5 H' x' p1 p2 p3 => ?_).to rfl) q
      have tn := et_t (ed_ninL (K := K) (b := b) (ed_var (σ := [some v, some v2, some v3, some v4, some v5, none]) (i := 2) rfl p1) (lcs v3 v4 v5 H' x') (ok_shaped (okx x (by simp))) (sh_strs pok.names.2).2)
      have i1 := ed_call (K := K) (b := b) (σ := [some v, some v2, some v3, some v4, some v5, none]) (pre := fun ds => ds.length = 2 ∧ ∀ d n, ds = [d, n] → ∃ i, n = .int i) (f := F2 fun d n => indexD d (intOf n)) (E := E0) (kn.up x') (ea_cons (ed_var (i := 3) rfl p2) (ea_cons (ed_c (v := .int 60) (.int 60)) ea_nil)) ⟨rfl, fun d n h' => by cases h'; exact ⟨60, rfl⟩⟩
      have i2 := ed_call (K := K) (b := b) (σ := [some v, some v2, some v3, some v4, some v5, none]) (pre := fun ds => ds.length = 2 ∧ ∀ d n, ds = [d, n] → ∃ i, n = .int i) (f := F2 fun d n => indexD d (intOf n)) (E := E0) (kn.up x') (ea_cons (ed_var (i := 4) rfl p3) (ea_cons (ed_c (v := .int 60) (.int 60)) ea_nil)) ⟨rfl, fun d n h' => by cases h'; exact ⟨60, rfl⟩⟩
      refine (sr_if tn (fun _ => sr_ret ed_bl) fun _ => sr_ret (ed_andB i1 fun hi1 => ed_andB (k := leD y z) i2 fun hi2 => ?_)).to ?_
      · obtain ⟨i, rfl⟩ := indexD_int hi1
        obtain ⟨j, rfl⟩ := indexD_int hi2
        exact ed_le (ed_var rfl p2) (ed_var rfl p3)
      · show _ = PyData.bool (inD x ((namesP ps).map .str) && (indexD y 60 && (indexD z 60 && leD y z)))
        cases inD x ((namesP ps).map .str) <;> rfl
    · have e3 : (((lenD (.tuple ds) : Nat) : Int) == 3) = false := beq_eq_false_iff_ne.mpr (by show ¬ ((ds.length : Nat) : Int) = 3; omega)
      rw [e3] at t2
      refine SR.fin ((sr_if (d := .none) t0 (fun h => nomatch h) fun _ => sr_if (e := .none) t2 (fun _ => sr_ret ed_bl) fun h => nomatch h).to ?_) q
      have : whereD (namesP ps) (.tuple ds) = false := by
        match ds, h3 with
        | [], _ => rfl
        | [_], _ => rfl
        | [_, _], _ => rfl
        | [_, _, _], h => exact absurd rfl h
        | _ :: _ :: _ :: _ :: _, _ => rfl
      show PyData.bool false = .bool (whereD (namesP ps) (.tuple ds))
      rw [this]
end
end Wr

set_option Elab.async false
set_option linter.all false
set_option maxRecDepth 100000
set_option maxHeartbeats 4000000
namespace Wr
open PySem PySem.Spec PyProof.Rows L2 Evl
abbrev veTail : List Value := [.type "ValueError", .type "Exception", .type "BaseException", .type "object"]
/-- what the top leaves of NoProgram -/
structure NgC (K : PySem.W.Frag) (mg : Str → Option Value) (C : Addr) : Prop where
  m : mg "NoProgram" = some (.ref C)
  q : PySem.W.excIn K C veTail "ValueError.__new__" = true
  kC : PySem.W.keepIn K (.ref C) = true
  sub : PySem.W.subIn K (.ref C) (.type "BaseException") = some true
  ty : PySem.W.typeIn K (.ref C) = some (.type "type")
def spCk (K : PySem.W.Frag) (C : Addr) : Sp := fun vs H Q E => ∃ b d, Kn b H ∧ DqAll K b H vs [d] ∧ okD 30 d = true ∧ (progD d = true → ∀ H', Ex H H' → Q .non H') ∧ (progD d = false → ∀ H', Ex H H' → E (.ref C) none H')
def spCn (K : PySem.W.Frag) : Sp := fun vs H Q _ => ∃ b p d, Kn b H ∧ DqAll K b H vs [p, d] ∧ okD 30 p = true ∧ okD 30 d = true ∧ progD p = true ∧ ∀ H', Ex H H' → Q (.bl (hookD (itT p) d)) H'
def spHk (K : PySem.W.Frag) (C : Addr) : Sp := fun vs H Q E => ∃ b p d, Kn b H ∧ DqAll K b H vs [p, d] ∧ okD 30 p = true ∧ okD 30 d = true ∧ (progD p = true → ∀ H', Ex H H' → Q (.bl (hookD (itT p) d)) H') ∧ (progD p = false → ∀ H', Ex H H' → E (.ref C) none H')
theorem progD_tup {d : PyData} (h : progD d = true) : ∃ ds, d = .tuple ds := by
  cases d <;> first | exact ⟨_, rfl⟩ | cases h
section
variable {P : Program} {w : World} {K : PySem.W.Frag} {mg : Str → Option Value} {base : Heap} {C f g g2 g3 aK : Addr} {fd gd gd2 gd3 : FuncData}
theorem ok_check (T : NgC K mg C) (D : Def K mg "check_program" s_check ["thing"] f fd) {st : Stmt} (D1 : Def K mg "is_program" st ["thing"] g gd) (G1 : FnOk P w K mg base CX0 5 g gd ["thing"] (spP K ProgPre (F1 progD))) :
    FnOk P w K mg base (L2.CX P w) 6 f fd ["thing"] (spCk K C) := by
  refine D.F.okX sc_check (fun vs H Q E ⟨b, d, _, hd, _⟩ => by rw [dps_len hd]; rfl) (fun cdv A outer s H vs Q E hr h => ?_)
  obtain ⟨b, d, kn, hd, ho, q1, q2⟩ := h
  obtain ⟨v, d', rfl, e, h1⟩ := one_of hd rfl
  cases e
  refine ⟨_, pss_one (ps_if (pt_not (pt_val (pe_cd D1 G1 hr (pa_cons (pv 0) pa_nil)))) (pss_one (ps_raise (W := fun cls d _ H => E cls d H) rfl (takes_of rfl rfl rfl rfl) (pmk_own F.excBase_ValueError T.q T.m T.kC (raises_own T.sub T.ty) rfl))) pss_nil), ?_⟩
  have t1 := et_n (et_b (ed_call (K := K) (b := b) (σ := start ["thing"] [v]) (H := H) (pre := ProgPre) (f := F1 progD) (E := E0) kn (ea_cons (ed_var (i := 0) rfl h1) ea_nil) ⟨rfl, fun d' e => by cases e; exact ho⟩))
  refine t1 H (Ex.refl H) _ fun H1 x1 => ?_
  cases hp : progD d with
  | true =>
    show ite (false = true) _ _
    rw [if_neg Bool.false_ne_true]
    exact q1 hp H1 x1
  | false =>
    show ite (true = true) _ _
    rw [if_pos rfl]
    exact q2 hp H1 x1
theorem ok_can (D : Def K mg "can_hook" s_can ["program", "thing"] f fd)
    (D2 : Def K mg "are_kinds" s_kinds ["thing"] g2 gd2) (G2 : FnOk P w K mg base CX0 2 g2 gd2 ["thing"] (spP K (fun ds => ds.length = 1 ∧ ∀ d, ds = [d] → okD 30 d = true) (F1 kindsD)))
    (D3 : Def K mg "is_where" s_where ["program", "thing"] g3 gd3) (G3 : FnOk P w K mg base CX0 3 g3 gd3 ["program", "thing"] (spP K WhPre (F2 fun p d => whereD (namesP (itT p)) d))) (B : Blt mg) {t : Tok} (mH : mg "HOOK_NAMES" = some (.int 3 t)) :
    FnOk P w K mg base CX0 4 f fd ["program", "thing"] (spCn K) := by
  refine D.F.ok sc_can (fun vs H Q E ⟨b, p, d, _, hd, _⟩ => by rw [dps_len hd]; rfl) (fun cdv A outer s H vs Q E hr h => ?_)
  obtain ⟨b, p, d, kn, hd, okp, hok, hp, q⟩ := h
  obtain ⟨v, v2, p', d', rfl, e, h1, h2⟩ := two_of hd rfl
  cases e
  have r2 : Room 2 _ := hr.mono (by decide)
  have r3 : Room 3 _ := hr.mono (by decide)
  refine ⟨_, pss_cons (ps_if (PW.pt (pw_or (pt_not (pt_val (pe_callB call_isi rfl B.isi bb_isinstance (pa_cons (pv 1) (pa_cons (pe_tyN rfl B.tuple bt_tuple) pa_nil)))))
      (pw_or1 (pt_cmpR (op_neD (hu64 hr)) (pe_callB call_lenD1 rfl B.len bb_len (pa_cons (pv 1) pa_nil)) pe_int (nomark _))))) (pss_one (ps_ret pe_bl)) pss_nil)
    (pss_cons (ps_asg (pv 1) (pg_tup rfl (pgs_cons (pg_name (i := 2) sc_can.nd rfl (Or.inl rfl)) (pgs_cons (pg_name (i := 3) sc_can.nd rfl (Or.inl rfl)) (pgs_cons (pg_name (i := 4) sc_can.nd rfl (Or.inl rfl)) pgs_nil)))))
    (pss_cons (ps_setLc (i := 5) (own := [("part", 6)]) (g := gName 6) (tt := tTest (tOp (rEqD K) (tCB (rLen K) (tCons (tOp (rIxT K) (tVar 6) (tC (.int 1))) tNil)) (tC (.int 3)))) rfl sc_can.nd rfl rfl (sw_true rfl rfl rfl (by decide +kernel)) (pi_tup (pv 0)) (blkOk_by (N := NHk) (sc := defScope s_can) (by decide +kernel)) (fun _ _ _ _ _ => pg_name (i := 6) sc_can.nd rfl (Or.inl rfl))
      (fun _ _ _ _ _ => pts_one (pt_cmpR (op_eqD (hu64 hr)) (pe_callB (r := rLen K) call_lenD1 rfl B.len bb_len (pa_cons (pe_ix (r := rIxT K) ix_tup (pv 6) pe_int (fun _ _ => rfl)) pa_nil)) (pe_gI mH) (nomark _))) (fun _ _ _ _ _ => pe_ix (r := rIxT K) ix_tup (pv 6) pe_int (fun _ _ => rfl)))
    (pss_one (ps_ret (pe_and (pe_cmpR (op_inD (hu65 hr)) (pv 2) (pv 5) rfl) (pe_and (pe_cd D2 G2 r2 (pa_cons (pv 3) pa_nil)) (pe_one (pe_cd D3 G3 r3 (pa_cons (pv 0) (pa_cons (pv 4) pa_nil)))))))))), ?_⟩
  have x0 : Ex H H := Ex.refl H
  obtain ⟨ps, rfl⟩ := progD_tup hp
  have pok := parts_ok hp okp
  have hl8 := pok.1
  have kn0 := kn.up x0
  have g1 := Dq.up h1 x0
  have g2 := Dq.up h2 x0
  show tSeq _ _ _ (start NHk [v, v2]) H
  have t1 := et_n (et_b (ed_isi (K := K) (b := b) (σ := start NHk [v, v2]) (H := H) (T := "tuple") (.inr (.inr (.inr (.inl rfl)))) (ed_var (i := 1) rfl g2)))
  have fin : ∀ (u : V) (H' : Hp), Ex H H' → Dq K b H' u (.bool (hookD ps d)) → Q u H' := fun u H' x' hu => by
    rw [dq_bl hu]
    exact q H' (x0.trans x')
  cases hs : isD "tuple" d with
  | false =>
    rw [hs] at t1
    refine SR.fin ((sr_if (e := .none) (et_or (b := false) t1 fun h => nomatch h) (fun _ => sr_ret ed_bl) fun h => nomatch h).to ?_) fin
    have : hookD ps d = false := by
      cases d <;> first | rfl | (simp [isD, dTy, tyIs] at hs)
    show PyData.bool false = .bool (hookD ps d)
    rw [this]
  | true =>
    obtain ⟨ds, rfl⟩ := isD_tuple hs
    rw [hs] at t1
    have okx : ∀ e ∈ ds, okD 30 e = true := fun e he => ok_up (ok_items (n := 29) hok e he) (by omega)
    have t2 := et_or t1 fun _ => et_t (ed_ne (K := K) (b := b) (σ := start NHk [v, v2]) (ed_len (ed_var (i := 1) rfl g2) (.inr (.inr hs)) fun y e => by cases e) (ed_int (i := 3)) (sh_int _) (sh_int _))
    rw [eqv_int] at t2
    by_cases h3 : ds.length = 3
    · obtain ⟨x, y, z, rfl⟩ : ∃ x y z, ds = [x, y, z] := by
        match ds, h3 with
        | [x, y, z], _ => exact ⟨x, y, z, rfl⟩
      have lcs : ∀ (v3 v4 v5 : V) (H' : Hp), Ex H H' → ED K b (tLc (iTup K (tVar 0)) (gName 6) (tTest (tOp (rEqD K) (tCB (rLen K) (tCons (tOp (rIxT K) (tVar 6) (tC (.int 1))) tNil)) (tC (.int 3)))) (tOp (rIxT K) (tVar 6) (tC (.int 0))) [6]) [some v, some v2, some v3, some v4, some v5, none, none] H' (.list ((hookN ps).map .str)) := fun v3 v4 v5 H' x' => by
        have lc := ed_lcT (K := K) (b := b) (tt := tTest (tOp (rEqD K) (tCB (rLen K) (tCons (tOp (rIxT K) (tVar 6) (tC (.int 1))) tNil)) (tC (.int 3)))) (te := tOp (rIxT K) (tVar 6) (tC (.int 0))) (k := 6) (f := fst) (p := fun p => PyData.eqv (.int (lenD (snd2 p) : Nat)) (.int 3)) (kn0.up x') (ed_var (σ := [some v, some v2, some v3, some v4, some v5, none, none]) (i := 0) rfl (Dq.up g1 x')) (Nat.lt_of_le_of_lt hl8 (by decide)) (fun e v' H3 he x3 hv => by
          obtain ⟨x, cs, r, rfl, _⟩ := pok.2.2 e he
          exact et_t (ed_eq (ed_len (ed_ixT (ed_var rfl hv) ed_int (atI1 _ _ _)) (.inr (.inr rfl)) fun y e => by cases e) ed_int (sh_int _) (sh_int _))) (fun e v' H3 he _ x3 hv => by
          obtain ⟨x, cs, r, rfl, _⟩ := pok.2.2 e he
          exact ed_ixT (ed_var rfl hv) ed_int (atI0 _ _)) (fun e he _ => by
          obtain ⟨x, cs, r, rfl, _⟩ := pok.2.2 e he
          rfl)
        rw [← pok.hooks.1] at lc
        exact lc
      refine SR.fin ((sr_if (d := .none) t2 (fun h => nomatch h) fun _ => sr_unpack3 (d := .bool (hookD ps (.tuple [x, y, z]))) (ed_var rfl g2) fun v3 v4 v5 H' x' p1 p2 p3 => sr_set (lcs v3 v4 v5 H' x') fun v6 H'' x'' h6 => ?_).to rfl) fin
      have tn := ed_inL (K := K) (b := b) (ed_var (σ := [some v, some v2, some v3, some v4, some v5, some v6, none]) (i := 2) rfl (Dq.up p1 x'')) (ed_var (i := 5) rfl h6) (ok_shaped (okx x (by simp))) (sh_strs pok.hooks.2).2
      have i1 := ed_call (K := K) (b := b) (σ := [some v, some v2, some v3, some v4, some v5, some v6, none]) (pre := fun ds => ds.length = 1 ∧ ∀ d, ds = [d] → okD 30 d = true) (f := F1 kindsD) (E := E0) (kn0.up (x'.trans x'')) (ea_cons (ed_var (i := 3) rfl (Dq.up p2 x'')) ea_nil) ⟨rfl, fun d h' => by cases h'; exact okx y (by simp)⟩
      have i2 := ed_call (K := K) (b := b) (σ := [some v, some v2, some v3, some v4, some v5, some v6, none]) (pre := WhPre) (f := F2 fun p d => whereD (namesP (itT p)) d) (E := E0) (kn0.up (x'.trans x'')) (ea_cons (ed_var (i := 0) rfl (Dq.up g1 (x'.trans x''))) (ea_cons (ed_var (i := 4) rfl (Dq.up p3 x'')) ea_nil)) ⟨rfl, fun p d h' => by cases h'; exact ⟨⟨ps, rfl, pok⟩, okx z (by simp)⟩⟩
      exact (sr_ret (ed_andB tn fun _ => ed_andB i1 fun _ => i2)).to rfl
    · have e3 : (((lenD (.tuple ds) : Nat) : Int) == 3) = false := beq_eq_false_iff_ne.mpr (by show ¬ ((ds.length : Nat) : Int) = 3; omega)
      rw [e3] at t2
      refine SR.fin ((sr_if (e := .none) t2 (fun _ => sr_ret ed_bl) fun h => nomatch h).to ?_) fin
      have : hookD ps (.tuple ds) = false := by
        match ds, h3 with
        | [], _ => rfl
        | [_], _ => rfl
        | [_, _], _ => rfl
        | [_, _, _], h => exact absurd rfl h
        | _ :: _ :: _ :: _ :: _, _ => rfl
      show PyData.bool false = .bool (hookD ps (.tuple ds))
      rw [this]
theorem ok_hook (D : Def K mg "is_hook" s_hook ["program", "thing"] f fd) (D1 : Def K mg "check_program" s_check ["thing"] g gd) (G1 : FnOk P w K mg base (L2.CX P w) 6 g gd ["thing"] (spCk K C))
    (D2 : Def K mg "can_hook" s_can ["program", "thing"] g2 gd2) (G2 : FnOk P w K mg base CX0 4 g2 gd2 ["program", "thing"] (spCn K)) :
    FnOk P w K mg base (L2.CX P w) 7 f fd ["program", "thing"] (spHk K C) := by
  refine D.F.okX sc_hook (fun vs H Q E ⟨b, p, d, _, hd, _⟩ => by rw [dps_len hd]; rfl) (fun cdv A outer s H vs Q E hr h => ?_)
  obtain ⟨b, p, d, kn, hd, okp, hok, q1, q2⟩ := h
  obtain ⟨v, v2, p', d', rfl, e, h1, h2⟩ := two_of hd rfl
  cases e
  refine ⟨_, pss_cons (ps_expr (pe_callS (E := WE fun cls d _ H => E cls d H) G1 hr rfl D1.m D1.F.kp D1.b (fun σ => passAt (takes_of rfl rfl rfl rfl) σ) (pa_cons (pv 0) pa_nil)))
    (pss_one (ps_ret (pe_cd D2 G2 (hr.mono (by decide)) (pa_cons (pv 0) (pa_cons (pv 1) pa_nil))))), ?_⟩
  refine ⟨v, rfl, b, p, kn, .cons h1 .nil, okp, fun hp H0 x0 => ?_, fun hp H0 x0 => q2 hp H0 x0⟩
  exact ⟨v, rfl, v2, rfl, b, p, d, kn.up x0, .cons (Dq.up h1 x0) (.cons (Dq.up h2 x0) .nil), okp, hok, hp, fun H' x' => q1 hp H' (x0.trans x')⟩
end
end Wr

set_option Elab.async false
set_option linter.all false
set_option maxRecDepth 100000
set_option maxHeartbeats 4000000
namespace Wr
open PySem PySem.Spec PyProof.Rows L2 Evl
theorem strEq (x y : Str) : PyData.eqv (.str x) (.str y) = decide (x = y) := by
  simp only [PyData.eqv]
  rfl
theorem count_strs (x : Str) (xs : List Str) : countD (.str x) (xs.map .str) = xs.count x := by
  unfold countD
  rw [List.countP_map, List.count]
  refine congrArg (fun p => List.countP p xs) (funext fun y => ?_)
  show PyData.eqv (.str y) (.str x) = (y == x)
  rw [strEq]
  by_cases h : y = x
  · rw [decide_eq_true h, h, beq_self_eq_true]
  · rw [decide_eq_false h, beq_eq_false_iff_ne.mpr h]
theorem inD_str (z : Str) (ws : List Str) : inD (.str z) (ws.map .str) = decide (z ∈ ws) := by
  unfold inD
  by_cases h : z ∈ ws
  · rw [decide_eq_true h]
    exact List.any_eq_true.mpr ⟨.str z, List.mem_map.mpr ⟨z, h, rfl⟩, by rw [strEq]; exact decide_eq_true rfl⟩
  · rw [decide_eq_false h]
    apply Bool.eq_false_iff.mpr
    intro q
    obtain ⟨y, hy, e⟩ := List.any_eq_true.mp q
    obtain ⟨x, hx, rfl⟩ := List.mem_map.mp hy
    rw [strEq] at e
    exact h (of_decide_eq_true e ▸ hx)
theorem eqv_strn {d : PyData} (h : isD "str" d = false) (x : Str) : PyData.eqv (.str x) d = false := by
  cases d <;> first | (simp only [PyData.eqv]; done) | (simp [isD, dTy, tyIs] at h)
theorem inD_nstr {d : PyData} (h : isD "str" d = false) (ws : List Str) : inD d (ws.map .str) = false := by
  unfold inD
  apply Bool.eq_false_iff.mpr
  intro q
  obtain ⟨y, hy, e⟩ := List.any_eq_true.mp q
  obtain ⟨x, hx, rfl⟩ := List.mem_map.mp hy
  rw [eqv_strn h] at e
  cases e
theorem eqv_nil (ds : List PyData) : PyData.eqv (.tuple ds) (.tuple []) = ds.isEmpty := by
  cases ds <;> simp only [PyData.eqv, PyData.eqvAll, List.isEmpty]
theorem sh_nil : SeqAt.shaped (.tuple []) = true := (sh_strs (xs := []) rfl).1
theorem nodup_sub_len : ∀ (xs ys : List Str), xs.Nodup → (∀ x ∈ xs, x ∈ ys) → xs.length ≤ ys.length
  | [], _, _, _ => Nat.zero_le _
  | x :: r, ys, nd, h => by
    have hx : x ∈ ys := h x List.mem_cons_self
    have nd' := List.nodup_cons.mp nd
    have ih := nodup_sub_len r (ys.erase x) nd'.2 fun y hy => by
      have hne : y ≠ x := fun e => nd'.1 (e ▸ hy)
      exact (List.mem_erase_of_ne hne).mpr (h y (List.mem_cons_of_mem _ hy))
    rw [List.length_erase_of_mem hx] at ih
    have := List.length_pos_of_mem hx
    rw [List.length_cons]
    omega
theorem kinds_eq (ks : List PyData) : kindsD (.tuple ks) = (!ks.isEmpty && (ks.all (isD "str") && ks.all fun z => inD z (kindW.map .str) && PyData.eqv (.int (countD z ks : Nat)) (.int 1))) := by
  show ((decide (1 ≤ ks.length) && decide (ks.length ≤ 5)) && (ks.all (fun z => inD z (kindW.map .str)) && unlikeS (strsOf ks))) = _
  cases hs : ks.all (isD "str") with
  | false =>
    have e1 : ks.all (fun z => inD z (kindW.map .str)) = false := by
      apply Bool.eq_false_iff.mpr
      intro q
      rw [List.all_eq_true.mpr fun z hz => in_strs (List.all_eq_true.mp q z hz)] at hs
      cases hs
    rw [e1]
    cases ks.isEmpty <;> simp
  | true =>
    obtain ⟨xs, rfl⟩ : ∃ xs : List Str, ks = xs.map .str := ⟨strsOf ks, (map_strsOf hs).symm⟩
    rw [strsOf_map, List.length_map, Bool.true_and]
    have e0 : (!(xs.map PyData.str).isEmpty) = decide (1 ≤ xs.length) := by
      cases xs <;> simp
    have e1 : ((xs.map PyData.str).all fun z => inD z (kindW.map .str)) = xs.all fun x => decide (x ∈ kindW) := by
      rw [List.all_map]
      exact congrArg (fun p => xs.all p) (funext fun x => inD_str x kindW)
    have e2 : ((xs.map PyData.str).all fun z => inD z (kindW.map .str) && PyData.eqv (.int (countD z (xs.map .str) : Nat)) (.int 1)) = xs.all fun x => decide (x ∈ kindW) && decide (xs.count x = 1) := by
      rw [List.all_map]
      refine congrArg (fun p => xs.all p) (funext fun x => ?_)
      show (inD (.str x) (kindW.map .str) && PyData.eqv (.int (countD (.str x) (xs.map .str) : Nat)) (.int 1)) = _
      rw [inD_str, count_strs, eqv_int]
      congr 1
      by_cases h : xs.count x = 1
      · rw [decide_eq_true h, h]
        rfl
      · rw [decide_eq_false h]
        exact beq_eq_false_iff_ne.mpr (by omega)
    rw [e0, e1, e2]
    have e3 : (xs.all fun x => decide (x ∈ kindW) && decide (xs.count x = 1)) = ((xs.all fun x => decide (x ∈ kindW)) && unlikeS xs) := by
      unfold unlikeS
      by_cases nd : xs.Nodup
      · rw [decide_eq_true ((uq_len_iff xs).mpr nd), Bool.and_true]
        apply Bool.eq_iff_iff.mpr
        rw [List.all_eq_true, List.all_eq_true]
        constructor
        · intro h x hx
          have := h x hx
          rw [Bool.and_eq_true] at this
          exact this.1
        · intro h x hx
          rw [Bool.and_eq_true]
          refine ⟨h x hx, decide_eq_true ?_⟩
          have h1 := List.nodup_iff_count.mp nd x
          have h2 := List.count_pos_iff.mpr hx
          omega
      · rw [decide_eq_false fun e => nd ((uq_len_iff xs).mp e), Bool.and_false]
        apply Bool.eq_false_iff.mpr
        intro h
        apply nd
        rw [List.nodup_iff_count]
        intro x
        by_cases hx : x ∈ xs
        · have := List.all_eq_true.mp h x hx
          rw [Bool.and_eq_true] at this
          have := of_decide_eq_true this.2
          omega
        · rw [List.count_eq_zero_of_not_mem hx]
          exact Nat.zero_le _
    rw [e3]
    by_cases h5 : xs.length ≤ 5
    · rw [decide_eq_true h5, Bool.and_true]
    · rw [decide_eq_false h5, Bool.and_false, Bool.false_and]
      symm
      apply Bool.eq_false_iff.mpr
      intro q
      rw [Bool.and_eq_true, Bool.and_eq_true] at q
      have nd := (uq_len_iff xs).mp (of_decide_eq_true q.2.2)
      have := nodup_sub_len xs kindW nd fun x hx => of_decide_eq_true (List.all_eq_true.mp q.2.1 x hx)
      exact h5 this
/-! ### a chain of three comparisons -/
def tChain3 (r r' r'' : R2) (ta tb tc td : TE) : TE := fun σ H Q => ta σ H fun x H1 => tb σ H1 fun y H2 => r x y H2 fun z H3 => ∃ k, z = .bl k ∧
  (if k = true then tc σ H3 fun w' H4 => r' y w' H4 fun z2 H5 => ∃ k2, z2 = .bl k2 ∧ (if k2 = true then td σ H5 fun u' H6 => r'' w' u' H6 Q else Q (.bl false) H5) else Q (.bl false) H3)
theorem pe_chain3 {X : Cx} {a b c d : Expr} {ta tb tc td : TE} {pos : Pos} {op op' op'' : CmpOp} {r r' r'' : R2} (ho : OpR X (compareOp op) r) (ho' : OpR X (compareOp op') r') (ho'' : OpR X (compareOp op'') r'') (ha : PE X a ta) (hb : PE X b tb) (hc : PE X c tc) (hd : PE X d td)
    (hm : lastMarks [op, op', op''] [b, c, d] = false := by with_unfolding_all rfl) : PE X (.Compare a [op, op', op''] [b, c, d] pos) (tChain3 r r' r'' ta tb tc td) := by
  refine ⟨fun pins s σ H Q I h => ?_⟩
  refine Compare_chain (thn (ha.run pins s σ H _ I h) fun v s1 ⟨x, H1, I1, r1, q1⟩ => chain_link (thn (hb.run pins s1 σ H1 _ I1 q1) fun u s2 ⟨y, H2, I2, r2, q2⟩ =>
    thn (ho pins s2 σ H2 x y v u _ I2 r1 r2 q2) fun d s3 ⟨z, H3, I3, r3, k, e, q3⟩ => ?_)) hm
  subst e
  cases r3
  refine wpAny_truthy_bool ?_
  cases k with
  | false => exact ite_ff ⟨.bl false, H3, I3, rfl, q3⟩
  | true =>
    refine ite_tt (chain_link (r' := eval _ X.env) (rs := []) (thn (hc.run pins s3 σ H3 _ I3 q3) fun w' s4 ⟨z', H4, I4, r4, q4⟩ => thn (ho' pins s4 σ H4 y z' u w' _ I4 r2 r4 q4) fun d' s5 ⟨z2, H5, I5, r5, k2, e2, q5⟩ => ?_))
    subst e2
    cases r5
    refine wpAny_truthy_bool ?_
    cases k2 with
    | false => exact ite_ff ⟨.bl false, H5, I5, rfl, q5⟩
    | true => exact ite_tt (chain_last (thn (hd.run pins s5 σ H5 _ I5 q5) fun w2 s6 ⟨z3, H6, I6, r6, q6⟩ => ho'' pins s6 σ H6 z' z3 w' w2 Q I6 r4 r6 q6))
section
variable {K : PySem.W.Frag} {b : List Addr} {σ : L2.St} {H H' : Hp} {ta tb tc td te : TE}
theorem ed_chain3 {g g' g'' : Int → Int → Bool} {i j k l : Int} (ha : ED K b ta σ H (.int i)) (hb : ED K b tb σ H (.int j)) (hc : ED K b tc σ H (.int k)) (hd : ED K b td σ H (.int l)) :
    ED K b (tChain3 (rI0 fun i j => .bl (g i j)) (rI0 fun i j => .bl (g' i j)) (rI0 fun i j => .bl (g'' i j)) ta tb tc td) σ H (.bool (g i j && (g' j k && g'' k l))) := fun H1 x1 Q q =>
  ha H1 x1 _ fun x H2 x2 hx => hb H2 (x1.trans x2) _ fun y H3 x3 hy => ⟨i, j, dq_int hx, dq_int hy, g i j, rfl, by
    cases hg : g i j with
    | false =>
      rw [if_neg Bool.false_ne_true]
      rw [hg] at q
      exact q _ H3 (x2.trans x3) (.bl _)
    | true =>
      rw [if_pos rfl]
      rw [hg] at q
      exact hc H3 ((x1.trans x2).trans x3) _ fun z H4 x4 hz => ⟨j, k, dq_int hy, dq_int hz, g' j k, rfl, by
        cases hg' : g' j k with
        | false =>
          rw [if_neg Bool.false_ne_true]
          rw [hg'] at q
          exact q _ H4 ((x2.trans x3).trans x4) (.bl _)
        | true =>
          rw [if_pos rfl]
          rw [hg'] at q
          exact hd H4 (((x1.trans x2).trans x3).trans x4) _ fun u H5 x5 hu => ⟨k, l, dq_int hz, dq_int hu, q _ H5 (((x2.trans x3).trans x4).trans x5) (.bl _)⟩⟩⟩
end
end Wr

set_option Elab.async false
set_option linter.all false
set_option maxRecDepth 100000
set_option maxHeartbeats 4000000
namespace Wr
open PySem PySem.Spec PyProof.Rows L2 Evl
abbrev s_lwhole : Stmt := topS 39
abbrev s_lisw : Stmt := topS 40
abbrev s_lish : Stmt := topS 41
theorem sc_lwhole : FnScope ["_law_thing"] ["_law_thing"] (defScope s_lwhole) := ⟨rfl, rfl, rfl, by decide +kernel, rfl, by decide +kernel, by decide +kernel⟩
abbrev NLw : List Str := ["_law_program_here", "_law_thing", "_law_part"]
theorem sc_lisw : FnScope NLw ["_law_program_here", "_law_thing"] (defScope s_lisw) := ⟨rfl, rfl, rfl, by decide +kernel, rfl, by decide +kernel, by decide +kernel⟩
abbrev NLh : List Str := ["_law_program_here", "_law_thing", "_law_kinds_here", "_law_known", "_law_part", "_law_kind"]
theorem sc_lish : FnScope NLh ["_law_program_here", "_law_thing"] (defScope s_lish) := ⟨rfl, rfl, rfl, by decide +kernel, rfl, by decide +kernel, by decide +kernel⟩
theorem nwhole_index {d : PyData} {n : Int} (h : wholeD d = false) : indexD d n = false := by
  cases d <;> first | rfl | (simp [wholeD, isD, dTy, tyIs] at h)
theorem span_eq (i j : Int) : (decide (0 ≤ i) && (decide (i ≤ j) && decide (j < 60))) = (indexD (.int i) 60 && (indexD (.int j) 60 && leD (.int i) (.int j))) := by
  show _ = ((decide (0 ≤ i) && decide (i < 60)) && ((decide (0 ≤ j) && decide (j < 60)) && decide (i ≤ j)))
  apply Bool.eq_iff_iff.mpr
  simp only [Bool.and_eq_true, decide_eq_true_eq]
  omega
section
variable {P : Program} {w : World} {K : PySem.W.Frag} {mg : Str → Option Value} {base : Heap} {f g g2 g3 aK : Addr} {fd gd gd2 gd3 : FuncData}
theorem ok_lwhole (D : Def K mg "_law_whole" s_lwhole ["_law_thing"] f fd) (B : Blt mg) : FnOk P w K mg base CX0 1 f fd ["_law_thing"] (spP K (fun ds => ds.length = 1) (F1 wholeD)) := by
  refine D.F.ok sc_lwhole (fun vs H Q E h => spP_len (fun _ h => h) h) (fun cdv A outer s H vs Q E hr h => ?_)
  obtain ⟨b, ds, kn, hd, hp, q⟩ := h
  obtain ⟨v, d, rfl, rfl, h1⟩ := one_of hd hp
  refine ⟨_, pss_one (ps_ret (pe_and (pe_callB call_isi rfl B.isi bb_isinstance (pa_cons (pv 0) (pa_cons (pe_tyN rfl B.int bt_int) pa_nil)))
    (pe_one (pe_not (pe_callB call_isi rfl B.isi bb_isinstance (pa_cons (pv 0) (pa_cons (pe_tyN rfl B.bool bt_bool) pa_nil))))))), ?_⟩
  exact SR.fin (sr_ret (ed_andB (ed_isi (.inl rfl) (ed_var rfl h1)) fun _ => ed_not (ed_isi (.inr (.inl rfl)) (ed_var rfl h1)))) q
theorem ok_lisw (D : Def K mg "_law_is_where" s_lisw ["_law_program_here", "_law_thing"] f fd) (D1 : Def K mg "_law_whole" s_lwhole ["_law_thing"] g gd) (B : Blt mg) :
    FnOk P w K mg base CX0 2 f fd ["_law_program_here", "_law_thing"] (spP K WhPre (F2 fun p d => whereD (namesP (itT p)) d)) := by
  refine D.F.ok sc_lisw (fun vs H Q E h => spP_len (fun _ h => h.1) h) (fun cdv A outer s H vs Q E hr h => ?_)
  obtain ⟨b, ds, kn, hd, ⟨hp, hp2⟩, q⟩ := h
  obtain ⟨v, v2, p, d, rfl, rfl, h1, h2⟩ := two_of hd hp
  obtain ⟨⟨ps, rfl, pok⟩, hok⟩ := hp2 p d rfl
  have G1 := ok_lwhole (P := P) (w := w) (base := base) D1 B
  refine ⟨_, pss_cons (ps_if (pt_cmp (pc_isN (pv 1))) (pss_one (ps_ret pe_bl)) pss_nil)
    (pss_cons (ps_if (PW.pt (pw_or (pt_not (pt_val (pe_callB call_isi rfl B.isi bb_isinstance (pa_cons (pv 1) (pa_cons (pe_tyN rfl B.tuple bt_tuple) pa_nil)))))
      (pw_or (pt_cmpR (op_neD (hu64 hr)) (pe_callB call_lenD1 rfl B.len bb_len (pa_cons (pv 1) pa_nil)) pe_int (nomark _))
      (pw_or1 (pt_not (pt_val (pe_callB call_isi rfl B.isi bb_isinstance (pa_cons (pe_ix ix_tup (pv 1) pe_int (fun _ _ => rfl)) (pa_cons (pe_tyN rfl B.str bt_str) pa_nil))))))))) (pss_one (ps_ret pe_bl)) pss_nil)
    (pss_cons (ps_if (PW.pt (pw_or (pt_cmpR (op_notInD (hu65 hr)) (pe_ix ix_tup (pv 1) pe_int (fun _ _ => rfl)) (pe_lc (own := [("_law_part", 2)]) (g := gName 2) (tt := tYes) rfl sc_lisw.nd (pi_tup (pv 0)) (blkOk_by (N := NLw) (sc := defScope s_lisw) (by decide +kernel)) (fun _ _ _ _ _ => pg_name (i := 2) sc_lisw.nd rfl (Or.inl rfl)) (fun _ _ _ _ _ => pts_nil)
      (fun _ _ _ _ _ => pe_ix (r := rIxT K) ix_tup (pv 2) pe_int (fun _ _ => rfl))) rfl)
      (pw_or (pt_not (pt_val (pe_cd D1 G1 hr (pa_cons (pe_ix ix_tup (pv 1) pe_int (fun _ _ => rfl)) pa_nil)))) (pw_or1 (pt_not (pt_val (pe_cd D1 G1 hr (pa_cons (pe_ix ix_tup (pv 1) pe_int (fun _ _ => rfl)) pa_nil)))))))) (pss_one (ps_ret pe_bl)) pss_nil)
    (pss_one (ps_ret (pe_chain3 op_le op_le op_lt pe_int (pe_ix ix_tup (pv 1) pe_int (fun _ _ => rfl)) (pe_ix ix_tup (pv 1) pe_int (fun _ _ => rfl)) pe_int))))), ?_⟩
  have t0 := et_b (ed_isN (K := K) (b := b) (σ := start NLw [v, v2]) (H := H) (ed_var (i := 1) rfl h2))
  cases hN : isN d with
  | true =>
    rw [hN] at t0
    have e := isN_not hN
    subst e
    exact SR.fin ((sr_if (e := .none) t0 (fun _ => sr_ret ed_bl) fun h => nomatch h).to rfl) q
  | false =>
  rw [hN] at t0
  have t1 := et_n (et_b (ed_isi (K := K) (b := b) (σ := start NLw [v, v2]) (H := H) (T := "tuple") (.inr (.inr (.inr (.inl rfl)))) (ed_var (i := 1) rfl h2)))
  cases hs : isD "tuple" d with
  | false =>
    rw [hs] at t1
    refine SR.fin ((sr_if (d := .none) t0 (fun h => nomatch h) fun _ => sr_if (e := .none) (et_or (b := false) t1 fun h => nomatch h) (fun _ => sr_ret ed_bl) fun h => nomatch h).to ?_) q
    have : whereD (namesP ps) d = false := by
      cases d <;> first | rfl | exact absurd hN (by decide) | (simp [isD, dTy, tyIs] at hs)
    show PyData.bool false = .bool (whereD (namesP ps) d)
    rw [this]
  | true =>
    obtain ⟨ds, rfl⟩ := isD_tuple hs
    rw [hs] at t1
    have okx : ∀ e ∈ ds, okD 30 e = true := fun e he => ok_up (ok_items (n := 29) hok e he) (by omega)
    have t2 := et_t (ed_ne (K := K) (b := b) (σ := start NLw [v, v2]) (ed_len (ed_var (i := 1) rfl h2) (.inr (.inr hs)) fun y e => by cases e) (ed_int (i := 3)) (sh_int _) (sh_int _))
    rw [eqv_int] at t2
    by_cases h3 : ds.length = 3
    · obtain ⟨x, y, z, rfl⟩ : ∃ x y z, ds = [x, y, z] := by
        match ds, h3 with
        | [x, y, z], _ => exact ⟨x, y, z, rfl⟩
      have hl8 := pok.1
      have i0 := ed_ixT (K := K) (b := b) (σ := start NLw [v, v2]) (ed_var (i := 1) rfl h2) (ed_int (i := 0)) (atI0 x [y, z])
      have i1 := ed_ixT (K := K) (b := b) (σ := start NLw [v, v2]) (ed_var (i := 1) rfl h2) (ed_int (i := 1)) (atI1 x y [z])
      have i2 := ed_ixT (K := K) (b := b) (σ := start NLw [v, v2]) (ed_var (i := 1) rfl h2) (ed_int (i := 2)) (atI2 x y z [])
      have t3 := et_n (et_b (ed_isi (T := "str") (.inr (.inr (.inl rfl))) i0))
      have tA := et_or t1 fun _ => et_or t2 fun _ => t3
      have lc := ed_lcT1 (K := K) (b := b) (te := tOp (rIxT K) (tVar 2) (tC (.int 0))) (k := 2) (f := fst) kn (ed_var (σ := start NLw [v, v2]) (i := 0) rfl h1) (Nat.lt_of_le_of_lt hl8 (by decide)) (fun e v' H3 he x3 hv => by
        obtain ⟨x, cs, r, rfl, _⟩ := pok.2.2 e he
        exact ed_ixT (ed_var rfl hv) ed_int (atI0 _ _)) (fun e he => by
        obtain ⟨x, cs, r, rfl, _⟩ := pok.2.2 e he
        rfl)
      rw [← pok.names.1] at lc
      have u1 := et_t (ed_ninL (K := K) (b := b) i0 lc (ok_shaped (okx x (by simp))) (sh_strs pok.names.2).2)
      have u2 := et_n (et_b (ed_call (K := K) (b := b) (pre := fun ds => ds.length = 1) (f := F1 wholeD) (E := E0) kn (ea_cons i1 ea_nil) rfl))
      have u3 := et_n (et_b (ed_call (K := K) (b := b) (pre := fun ds => ds.length = 1) (f := F1 wholeD) (E := E0) kn (ea_cons i2 ea_nil) rfl))
      have tB := et_or u1 fun _ => et_or u2 fun _ => u3
      refine SR.fin ((sr_if (d := .none) t0 (fun h => nomatch h) fun _ => sr_if tA (fun _ => sr_ret ed_bl) fun hA => sr_if tB (fun _ => sr_ret ed_bl) fun hB => sr_ret (d := .bool (indexD y 60 && (indexD z 60 && leD y z))) ?_).to ?_) q
      · rw [Bool.or_eq_false_iff, Bool.or_eq_false_iff] at hB
        obtain ⟨i, rfl⟩ := wholeD_int (by simpa using hB.2.1)
        obtain ⟨j, rfl⟩ := wholeD_int (by simpa using hB.2.2)
        exact (ed_chain3 (g := fun i j => decide (i ≤ j)) (g' := fun i j => decide (i ≤ j)) (g'' := fun i j => decide (i < j)) ed_int i1 i2 ed_int).to (by rw [← span_eq])
      · show _ = PyData.bool (inD x ((namesP ps).map .str) && (indexD y 60 && (indexD z 60 && leD y z)))
        show (if (false || (false || !isD "str" x)) = true then PyData.bool false else if ((!inD x ((namesP ps).map .str)) || ((!wholeD y) || (!wholeD z))) = true then PyData.bool false else _) = _
        cases hx : isD "str" x with
        | false =>
          rw [inD_nstr hx]
          rfl
        | true =>
          cases inD x ((namesP ps).map .str) with
          | false => rfl
          | true =>
            cases hy : wholeD y with
            | false =>
              rw [nwhole_index hy]
              rfl
            | true =>
              cases hz : wholeD z with
              | false =>
                rw [nwhole_index (n := 60) hz]
                simp
              | true => rfl
    · have e3 : (((lenD (.tuple ds) : Nat) : Int) == 3) = false := beq_eq_false_iff_ne.mpr (by show ¬ ((ds.length : Nat) : Int) = 3; omega)
      rw [e3] at t2
      have tA := fun (u : TT) => et_or (u := tOr _ u) t1 fun _ => et_or (u := u) (b := false) t2 fun h => nomatch h
      refine SR.fin ((sr_if (d := .none) t0 (fun h => nomatch h) fun _ => sr_if (e := .none) (tA _) (fun _ => sr_ret ed_bl) fun h => nomatch h).to ?_) q
      have : whereD (namesP ps) (.tuple ds) = false := by
        match ds, h3 with
        | [], _ => rfl
        | [_], _ => rfl
        | [_, _], _ => rfl
        | [_, _, _], h => exact absurd rfl h
        | _ :: _ :: _ :: _ :: _, _ => rfl
      show PyData.bool false = .bool (whereD (namesP ps) (.tuple ds))
      rw [this]
end
end Wr

set_option Elab.async false
set_option linter.all false
set_option maxRecDepth 100000
set_option maxHeartbeats 4000000
namespace Wr
open PySem PySem.Spec PyProof.Rows L2 Evl
section
variable {P : Program} {w : World} {K : PySem.W.Frag} {mg : Str → Option Value} {base : Heap} {f g g2 g3 aK : Addr} {fd gd gd2 gd3 : FuncData}
theorem ok_lish (D : Def K mg "_law_is_hook" s_lish ["_law_program_here", "_law_thing"] f fd) (D1 : Def K mg "_law_is_where" s_lisw ["_law_program_here", "_law_thing"] g gd) (G1 : FnOk P w K mg base CX0 2 g gd ["_law_program_here", "_law_thing"] (spP K WhPre (F2 fun p d => whereD (namesP (itT p)) d))) (B : Blt mg) :
    FnOk P w K mg base CX0 3 f fd ["_law_program_here", "_law_thing"] (spP K WhPre (F2 fun p d => hookD (itT p) d)) := by
  refine D.F.ok sc_lish (fun vs H Q E h => spP_len (fun _ h => h.1) h) (fun cdv A outer s H vs Q E hr h => ?_)
  obtain ⟨b, ds, kn, hd, ⟨hp, hp2⟩, q⟩ := h
  obtain ⟨v, v2, p, d, rfl, rfl, h1, h2⟩ := two_of hd hp
  obtain ⟨⟨ps, rfl, pok⟩, hok⟩ := hp2 p d rfl
  refine ⟨_, pss_cons (ps_if (PW.pt (pw_or (pt_not (pt_val (pe_callB call_isi rfl B.isi bb_isinstance (pa_cons (pv 1) (pa_cons (pe_tyN rfl B.tuple bt_tuple) pa_nil)))))
      (pw_or (pt_cmpR (op_neD (hu64 hr)) (pe_callB call_lenD1 rfl B.len bb_len (pa_cons (pv 1) pa_nil)) pe_int (nomark _))
      (pw_or1 (pt_not (pt_val (pe_callB call_isi rfl B.isi bb_isinstance (pa_cons (pe_ix ix_tup (pv 1) pe_int (fun _ _ => rfl)) (pa_cons (pe_tyN rfl B.str bt_str) pa_nil))))))))) (pss_one (ps_ret pe_bl)) pss_nil)
    (pss_cons (ps_if (pt_cmpR (op_notInD (hu65 hr)) (pe_ix ix_tup (pv 1) pe_int (fun _ _ => rfl)) (pe_lc (own := [("_law_part", 4)]) (g := gName 4) (tt := tTest (tOp (rEqD K) (tCB (rLen K) (tCons (tOp (rIxT K) (tVar 4) (tC (.int 1))) tNil)) (tC (.int 3)))) rfl sc_lish.nd (pi_tup (pv 0)) (blkOk_by (N := NLh) (sc := defScope s_lish) (by decide +kernel)) (fun _ _ _ _ _ => pg_name (i := 4) sc_lish.nd rfl (Or.inl rfl))
      (fun _ _ _ _ _ => pts_one (pt_cmpR (op_eqD (hu64 hr)) (pe_callB (r := rLen K) call_lenD1 rfl B.len bb_len (pa_cons (pe_ix (r := rIxT K) ix_tup (pv 4) pe_int (fun _ _ => rfl)) pa_nil)) pe_int (nomark _)))
      (fun _ _ _ _ _ => pe_ix (r := rIxT K) ix_tup (pv 4) pe_int (fun _ _ => rfl))) rfl) (pss_one (ps_ret pe_bl)) pss_nil)
    (pss_cons (ps_set (i := 2) sc_lish.nd rfl (Or.inr rfl) (pe_ix ix_tup (pv 1) pe_int (fun _ _ => rfl)))
    (pss_cons (ps_if (PW.pt (pw_or (pt_not (pt_val (pe_callB call_isi rfl B.isi bb_isinstance (pa_cons (pv 2) (pa_cons (pe_tyN rfl B.tuple bt_tuple) pa_nil)))))
      (pw_or (pt_cmpR (op_eqD (hu64 hr)) (pv 2) (pe_tupF pa_nil) (nomark _))
      (pw_or1 (pt_not (pt_val (pe_callB (cr_all rfl) rfl B.all bb_all (pa_cons (pe_lc (own := [("_law_kind", 5)]) (g := gName 5) (tt := tYes) rfl sc_lish.nd (pi_tup (pv 2)) (blkOk_by (N := NLh) (sc := defScope s_lish) (by decide +kernel)) (fun _ _ _ _ _ => pg_name (i := 5) sc_lish.nd rfl (Or.inl rfl)) (fun _ _ _ _ _ => pts_nil)
        (fun _ _ _ _ _ => pe_callB (r := rIsi K) call_isi rfl B.isi bb_isinstance (pa_cons (pv 5) (pa_cons (pe_tyN rfl B.str bt_str) pa_nil)))) pa_nil)))))))) (pss_one (ps_ret pe_bl)) pss_nil)
    (pss_cons (ps_set (i := 3) sc_lish.nd rfl (Or.inr rfl) (pe_lst (pa_cons pe_str (pa_cons pe_str (pa_cons pe_str (pa_cons pe_str (pa_cons pe_str pa_nil)))))))
    (pss_cons (ps_if (pt_not (pt_val (pe_callB (cr_all rfl) rfl B.all bb_all (pa_cons (pe_lc (own := [("_law_kind", 5)]) (g := gName 5) (tt := tYes) (te := tAndV (tOp (rInD K) (tVar 5) (tVar 3)) (tOp (rEqD K) (tBMT K (rCountT K) (tVar 2) (tCons (tVar 5) tNil)) (tC (.int 1)))) rfl sc_lish.nd (pi_tup (pv 2)) (blkOk_by (N := NLh) (sc := defScope s_lish) (by decide +kernel)) (fun _ _ _ _ _ => pg_name (i := 5) sc_lish.nd rfl (Or.inl rfl)) (fun _ _ _ _ _ => pts_nil)
        (fun _ _ _ _ _ => pe_and (pe_cmpR (r := rInD K) (op_inD (hu65 hr)) (pv 5) (pv 3) rfl) (pe_one (pe_cmpR (r := rEqD K) (op_eqD (hu64 hr)) (pe_bmT (r := rCountT K) PySem.F.slot_tuple_count PySem.F.type_tuple_count (mt_countT (hu65 hr)) (pv 2) (pa_cons (pv 5) pa_nil)) pe_int (nomark _))))) pa_nil)))) (pss_one (ps_ret pe_bl)) pss_nil)
    (pss_one (ps_ret (pe_cd D1 G1 hr (pa_cons (pv 0) (pa_cons (pe_ix ix_tup (pv 1) pe_int (fun _ _ => rfl)) pa_nil)))))))))), ?_⟩
  have t1 := et_n (et_b (ed_isi (K := K) (b := b) (σ := start NLh [v, v2]) (H := H) (T := "tuple") (.inr (.inr (.inr (.inl rfl)))) (ed_var (i := 1) rfl h2)))
  cases hs : isD "tuple" d with
  | false =>
    rw [hs] at t1
    refine SR.fin ((sr_if (e := .none) (et_or (b := false) t1 fun h => nomatch h) (fun _ => sr_ret ed_bl) fun h => nomatch h).to ?_) q
    have : hookD ps d = false := by
      cases d <;> first | rfl | (simp [isD, dTy, tyIs] at hs)
    show PyData.bool false = .bool (hookD ps d)
    rw [this]
  | true =>
    obtain ⟨ds, rfl⟩ := isD_tuple hs
    rw [hs] at t1
    have okx : ∀ e ∈ ds, okD 29 e = true := fun e he => ok_items (n := 29) hok e he
    have t2 := et_t (ed_ne (K := K) (b := b) (σ := start NLh [v, v2]) (ed_len (ed_var (i := 1) rfl h2) (.inr (.inr hs)) fun y e => by cases e) (ed_int (i := 3)) (sh_int _) (sh_int _))
    rw [eqv_int] at t2
    by_cases h3 : ds.length = 3
    · obtain ⟨x, y, z, rfl⟩ : ∃ x y z, ds = [x, y, z] := by
        match ds, h3 with
        | [x, y, z], _ => exact ⟨x, y, z, rfl⟩
      have hl8 := pok.1
      have oky := okx y (by simp)
      have i0 := ed_ixT (K := K) (b := b) (σ := start NLh [v, v2]) (ed_var (i := 1) rfl h2) (ed_int (i := 0)) (atI0 x [y, z])
      have i1 := ed_ixT (K := K) (b := b) (σ := start NLh [v, v2]) (ed_var (i := 1) rfl h2) (ed_int (i := 1)) (atI1 x y [z])
      have t3 := et_n (et_b (ed_isi (T := "str") (.inr (.inr (.inl rfl))) i0))
      have tA := et_or t1 fun _ => et_or t2 fun _ => t3
      have lc := ed_lcT (K := K) (b := b) (tt := tTest (tOp (rEqD K) (tCB (rLen K) (tCons (tOp (rIxT K) (tVar 4) (tC (.int 1))) tNil)) (tC (.int 3)))) (te := tOp (rIxT K) (tVar 4) (tC (.int 0))) (k := 4) (f := fst) (p := fun p => PyData.eqv (.int (lenD (snd2 p) : Nat)) (.int 3)) kn (ed_var (σ := start NLh [v, v2]) (i := 0) rfl h1) (Nat.lt_of_le_of_lt hl8 (by decide)) (fun e v' H3 he x3 hv => by
        obtain ⟨x, cs, r, rfl, _⟩ := pok.2.2 e he
        exact et_t (ed_eq (ed_len (ed_ixT (ed_var rfl hv) ed_int (atI1 _ _ _)) (.inr (.inr rfl)) fun y e => by cases e) ed_int (sh_int _) (sh_int _))) (fun e v' H3 he _ x3 hv => by
        obtain ⟨x, cs, r, rfl, _⟩ := pok.2.2 e he
        exact ed_ixT (ed_var rfl hv) ed_int (atI0 _ _)) (fun e he _ => by
        obtain ⟨x, cs, r, rfl, _⟩ := pok.2.2 e he
        rfl)
      rw [← pok.hooks.1] at lc
      have u1 := et_t (ed_ninL (K := K) (b := b) i0 lc (ok_shaped (okx x (by simp))) (sh_strs pok.hooks.2).2)
      refine SR.fin ((sr_if tA (fun _ => sr_ret ed_bl) fun hA => sr_if u1 (fun _ => sr_ret ed_bl) fun hB => sr_set (d := .bool (kindsD y && whereD (namesP ps) z)) i1 fun vk H1 x1 hk => ?_).to ?_) q
      · have kn1 := kn.up x1
        have w1 := et_n (et_b (ed_isi (K := K) (b := b) (σ := [some v, some v2, some vk, none, none, none]) (H := H1) (T := "tuple") (.inr (.inr (.inr (.inl rfl)))) (ed_var (i := 2) rfl hk)))
        cases hy : isD "tuple" y with
        | false =>
          rw [hy] at w1
          refine (sr_if (e := .none) (et_or (b := false) w1 fun h => nomatch h) (fun _ => sr_ret ed_bl) fun h => nomatch h).to ?_
          have : kindsD y = false := by
            cases y <;> first | rfl | (simp [isD, dTy, tyIs] at hy)
          show PyData.bool false = .bool (kindsD y && whereD (namesP ps) z)
          rw [this]
          rfl
        | true =>
          obtain ⟨ks, rfl⟩ := isD_tuple hy
          rw [hy] at w1
          have lk := ok_len oky
          have okk : ∀ e ∈ ks, okD 28 e = true := fun e he => ok_items (n := 28) oky e he
          have w2 := et_t (ed_eq (K := K) (b := b) (σ := [some v, some v2, some vk, none, none, none]) (H := H1) (ed_var (i := 2) rfl hk) (ed_tup (ds := []) kn1 ea_nil (by decide)) (ok_shaped oky) sh_nil)
          rw [eqv_nil] at w2
          have w3 := et_n (et_b (ed_allT (K := K) (b := b) (k := 5) (σ := [some v, some v2, some vk, none, none, none]) (te := tCB (rIsi K) (tCons (tVar 5) (tCons (tC (.ty "str")) tNil))) (g := isD "str") kn1 (ed_var (i := 2) rfl hk) lk fun e v' H3 he x3 hv => ed_isi (T := "str") (.inr (.inr (.inl rfl))) (ed_var rfl hv)))
          have tC' := et_or w1 fun _ => et_or w2 fun _ => w3
          refine (sr_if tC' (fun _ => sr_ret ed_bl) fun hC => sr_set (d := .bool ((ks.all fun z => inD z (kindW.map .str) && PyData.eqv (.int (countD z ks : Nat)) (.int 1)) && whereD (namesP ps) z)) (ed_lst (ds := kindW.map .str) kn1 (ea_cons ed_str (ea_cons ed_str (ea_cons ed_str (ea_cons ed_str (ea_cons ed_str ea_nil))))) (by decide)) fun vn H2 x2 hn => ?_).to ?_
          · have kn2 := kn1.up x2
            have hk2 := Dq.up hk x2
            have w4 := et_n (et_b (ed_allT (K := K) (b := b) (k := 5) (σ := [some v, some v2, some vk, some vn, none, none]) (te := tAndV (tOp (rInD K) (tVar 5) (tVar 3)) (tOp (rEqD K) (tBMT K (rCountT K) (tVar 2) (tCons (tVar 5) tNil)) (tC (.int 1)))) (g := fun z => inD z (kindW.map .str) && PyData.eqv (.int (countD z ks : Nat)) (.int 1)) kn2 (ed_var (i := 2) rfl hk2) lk fun e v' H3 he x3 hv =>
              ed_andB (ed_inL (ed_var (i := 5) rfl hv) (ed_var (i := 3) rfl (Dq.up hn x3)) (ok_shaped (okk e he)) (sh_strs kindW_ok).2) fun _ => ed_eq (ed_countT (ed_var (i := 2) rfl (Dq.up hk2 x3)) (ed_var (i := 5) rfl hv) (ok_shaped oky) (ok_shaped (okk e he))) ed_int (sh_int _) (sh_int _)))
            have i2 := ed_ixT (K := K) (b := b) (σ := [some v, some v2, some vk, some vn, none, none]) (ed_var (i := 1) rfl (Dq.up h2 (x1.trans x2))) (ed_int (i := 2)) (atI2 x (.tuple ks) z [])
            refine (sr_if w4 (fun _ => sr_ret ed_bl) fun _ => sr_ret (ed_call (K := K) (b := b) (pre := WhPre) (f := F2 fun p d => whereD (namesP (itT p)) d) (E := E0) kn2 (ea_cons (ed_var (i := 0) rfl (Dq.up h1 (x1.trans x2))) (ea_cons i2 ea_nil)) ⟨rfl, fun p d h' => by cases h'; exact ⟨⟨ps, rfl, pok⟩, ok_up (okx z (by simp)) (by omega)⟩⟩)).to ?_
            show _ = PyData.bool ((ks.all fun z => inD z (kindW.map .str) && PyData.eqv (.int (countD z ks : Nat)) (.int 1)) && whereD (namesP ps) z)
            cases (ks.all fun z => inD z (kindW.map .str) && PyData.eqv (.int (countD z ks : Nat)) (.int 1)) <;> rfl
          · rw [kinds_eq]
            show (if (false || (ks.isEmpty || !ks.all (isD "str"))) = true then PyData.bool false else _) = _
            cases ks.isEmpty with
            | true => rfl
            | false => cases ks.all (isD "str") <;> rfl
      · show _ = PyData.bool (inD x ((hookN ps).map .str) && (kindsD y && whereD (namesP ps) z))
        show (if (false || (false || !isD "str" x)) = true then PyData.bool false else if (!inD x ((hookN ps).map .str)) = true then PyData.bool false else _) = _
        cases hx : isD "str" x with
        | false =>
          rw [inD_nstr hx]
          rfl
        | true => cases inD x ((hookN ps).map .str) <;> rfl
    · have e3 : (((lenD (.tuple ds) : Nat) : Int) == 3) = false := beq_eq_false_iff_ne.mpr (by show ¬ ((ds.length : Nat) : Int) = 3; omega)
      rw [e3] at t2
      have tA := fun (u : TT) => et_or (u := tOr _ u) t1 fun _ => et_or (u := u) (b := false) t2 fun h => nomatch h
      refine SR.fin ((sr_if (e := .none) (tA _) (fun _ => sr_ret ed_bl) fun h => nomatch h).to ?_) q
      have : hookD ps (.tuple ds) = false := by
        match ds, h3 with
        | [], _ => rfl
        | [_], _ => rfl
        | [_, _], _ => rfl
        | [_, _, _], h => exact absurd rfl h
        | _ :: _ :: _ :: _ :: _, _ => rfl
      show PyData.bool false = .bool (hookD ps (.tuple ds))
      rw [this]
end
end Wr

set_option Elab.async false
set_option linter.all false
set_option maxRecDepth 100000
set_option maxHeartbeats 4000000
namespace Wr
open PySem PySem.Spec PyProof.Rows L2 Evl
abbrev s_bag : Stmt := topS 32
abbrev NB : List Str := ["_law_script", "_law_at", "_law_cell", "_law_far"]
theorem sc_bag : FnScope NB ["_law_script", "_law_at"] (defScope s_bag) := ⟨rfl, rfl, rfl, by decide +kernel, rfl, by decide +kernel, by decide +kernel⟩
/-- a new bag, out of the script and a place -/
def spBag (K : PySem.W.Frag) : Sp := fun vs H Q _ => ∃ (b : List Addr) (ns : List Int) (k : Int), Kn b H ∧ DqAll K b H vs [.list (ns.map PyData.int), .int k] ∧ 0 ≤ k ∧ k < 100 ∧ ∀ p H', H p = none → Ex H H' → Bag p 1000000 H' → Q (.ref p) H'
section
variable {P : Program} {w : World} {K : PySem.W.Frag} {mg : Str → Option Value} {base : Heap} {f g g2 : Addr} {fd gd gd2 : FuncData}
theorem ok_bag (D : Def K mg "_law_bag" s_bag ["_law_script", "_law_at"] f fd) (B : Blt mg) (B2 : Blt2 mg) : FnOk P w K mg base CX0 1 f fd ["_law_script", "_law_at"] (spBag K) := by
  refine D.F.ok sc_bag (fun vs H Q E ⟨b, ns, k, _, hd, _⟩ => by rw [dps_len hd]; rfl) (fun cdv A outer s H vs Q E hr h => ?_)
  obtain ⟨b, ns, k, kn, hd, k0, k1, q⟩ := h
  obtain ⟨v, v2, d, d2, rfl, ed, h1, h2⟩ := two_of hd rfl
  cases ed
  have e2 := dq_int h2
  subst e2
  refine ⟨_, pss_cons (ps_set (i := 2) sc_bag.nd rfl (Or.inl rfl) (pe_op op_add (pe_op op_mul pe_int (pv 1)) pe_int))
    (pss_cons (ps_if (pt_cmpR op_lt (pv 1) (pe_callB call_lenD1 rfl B.len bb_len (pa_cons (pv 0) pa_nil)) (nomark _)) (pss_one (ps_set (i := 2) sc_bag.nd rfl (Or.inl rfl) (pe_ix ix_list (pv 0) (pv 1) (fun _ _ => rfl)))) pss_nil)
    (pss_cons (ps_set (i := 3) sc_bag.nd rfl (Or.inl rfl) (pe_callB call_absB rfl B2.abs bb_abs (pa_cons (pv 2) pa_nil)))
    (pss_one (ps_ret (pe_lst (pa_cons (pe_op op_mul (pv 3) (pe_callTy call_intB rfl B.int bt_int (pa_cons (pe_cmpR op_ge (pv 3) (pe_op op_pow pe_int pe_int) (nomark _)) pa_nil))) (pa_cons (pe_op op_add (pe_op op_mod (pv 2) pe_int) (pe_op op_mul pe_int (pv 1))) (pa_cons pe_int pa_nil)))))))), ?_⟩
  have pw : ∀ {σ'} {H'}, ED K b (tOp (rI CPow fun i j => .int (i ^ j.toNat)) (tC (.int 10)) (tC (.int 18))) σ' H' (.int 1000000000000000000) := fun {_ _} => ed_I ed_int ed_int ⟨by decide, by decide, by decide⟩ fun _ => .int _
  have rest : ∀ (c : Int) (H1 : Hp), Ex H H1 → tSeq (tAsg (tCB rAbs (tCons (tVar 2) tNil)) (gName 3))
      (tRet (tLst (tCons (tOp (rI CMul fun i j => .int (i * j)) (tVar 3) (tCB rInt1 (tCons (tOp (rI0 fun i j => .bl (decide (j ≤ i))) (tVar 3) (tOp (rI CPow fun i j => .int (i ^ j.toNat)) (tC (.int 10)) (tC (.int 18)))) tNil))) (tCons (tOp (rI0 fun i j => .int (i + j)) (tOp (rI (fun _ j => 0 < j) fun i j => .int (i % j)) (tVar 2) (tC (.int 2147483647))) (tOp (rI CMul fun i j => .int (i * j)) (tC (.int 66103)) (tVar 1))) (tCons (tC (.int 0)) tNil)))))
      { nx := fun _ H' => Q .non H', rt := Q } [some v, some (.int k), some (.int c), none] H1 := fun c H1 x1 => by
    refine g_set (ed_abs (K := K) (b := b) (ed_var (i := 2) (d := .int c) rfl (.int c))) fun v3 H2 x2 hv3 => ?_
    have e3 := dq_int hv3
    subst e3
    have h0 : (0 : Int) ≤ (if c < 0 then -c else c) := by split <;> omega
    generalize (if c < 0 then -c else c) = gg at h0
    have m0 := Int.emod_nonneg c (show (2147483647 : Int) ≠ 0 by decide)
    have m1 := Int.emod_lt_of_pos c (show (0 : Int) < 2147483647 by decide)
    have one : ED K b (tCB rInt1 (tCons (tOp (rI0 fun i j => .bl (decide (j ≤ i))) (tVar 3) (tOp (rI CPow fun i j => .int (i ^ j.toNat)) (tC (.int 10)) (tC (.int 18)))) tNil)) [some v, some (V.int k), some (.int c), some (.int gg)] H2 (.int (if decide ((1000000000000000000 : Int) ≤ gg) then 1 else 0)) := ed_intB (ed_ge (ed_var (i := 3) (d := .int gg) rfl (.int gg)) pw)
    have ub : 0 ≤ (if decide ((1000000000000000000 : Int) ≤ gg) then (1 : Int) else 0) ∧ (if decide ((1000000000000000000 : Int) ≤ gg) then (1 : Int) else 0) ≤ 1 := by split <;> omega
    generalize (if decide ((1000000000000000000 : Int) ≤ gg) then (1 : Int) else 0) = u at one ub
    have pr : 0 ≤ gg * u := Int.mul_nonneg h0 ub.1
    show tRet _ _ [some v, some (V.int k), some (.int c), some (.int gg)] H2
    unfold tRet tLst
    refine (ea_cons (K := K) (b := b) (σ := [some v, some (.int k), some (.int c), some (.int gg)]) (ed_mul (ed_var (i := 3) (d := .int gg) rfl (.int gg)) one (.inr ⟨by omega, by omega⟩)) (ea_cons (ed_add (ed_mod (ed_var (i := 2) (d := .int c) rfl (.int c)) (ed_int (i := 2147483647)) (by decide)) (ed_mul (ed_int (i := 66103)) (ed_var (i := 1) (d := .int k) rfl (.int k)) (.inl (by decide)))) (ea_cons (ed_int (i := 0)) ea_nil))) H2 (Ex.refl H2) _ fun us H3 x3 hu => ?_
    cases hu with
    | cons a1 hu =>
    cases hu with
    | cons a2 hu =>
    cases hu with
    | cons a3 hu =>
    cases hu
    have e1 := dq_int a1
    have e2 := dq_int a2
    have e3 := dq_int a3
    subst e1 e2 e3
    refine ⟨by show 3 ≤ sizeLine; decide, fun p hp => q p _ ?_ (((x1.trans x2).trans x3).trans (Ex.new hp)) ⟨gg * u, _, 0, upd_same, pr, by omega, by omega, by omega, by omega⟩⟩
    cases z : H p with
    | none => rfl
    | some o => rw [((x1.trans x2).trans x3) _ _ z] at hp; cases hp
  refine g_set (ed_add (K := K) (b := b) (ed_mul (ed_int (i := 3001)) (ed_var (σ := start NB [v, .int k]) (i := 1) (d := .int k) rfl (.int k)) (.inl (by decide))) (ed_int (i := 7))) fun vc Hc xc hvc => ?_
  have ec := dq_int hvc
  subst ec
  have hl := ed_len (K := K) (b := b) (σ := [some v, some (V.int k), some (.int (3001 * k + 7)), none]) (H := Hc) (ed_var (i := 0) rfl (Dq.up h1 xc)) (.inr (.inl rfl)) (fun y e => by cases e)
  refine (et_t (ed_lt (K := K) (b := b) (ed_var (i := 1) (d := .int k) rfl (.int k)) hl)) Hc (Ex.refl Hc) _ fun H3 x3 => ?_
  split
  · rename_i hc
    have hc' : k < ((lenD (.list (ns.map .int)) : Nat) : Int) := of_decide_eq_true hc
    have hk : k.toNat < ns.length := by
      have : (lenD (.list (ns.map PyData.int))) = ns.length := List.length_map ..
      rw [this] at hc'
      omega
    have hat : atI (ns.map PyData.int) k = some (.int ns[k.toNat]) := by
      have e : ((k.toNat : Nat) : Int) = k := Int.toNat_of_nonneg k0
      have := atI_nat (xs := ns.map PyData.int) (j := k.toNat) (v := .int ns[k.toNat]) (by rw [List.getElem?_map, List.getElem?_eq_getElem hk]; rfl)
      rw [e] at this
      exact this
    refine (ed_ixL (K := K) (b := b) (ed_var (i := 0) rfl (Dq.up h1 (xc.trans x3))) (ed_var (i := 1) (d := .int k) rfl (.int k)) hat) H3 (Ex.refl H3) _ fun v2 H4 x4 hv2 => ?_
    have e2 := dq_int hv2
    subst e2
    exact rest _ H4 ((xc.trans x3).trans x4)
  · exact rest _ H3 (xc.trans x3)
end
end Wr

set_option Elab.async false
set_option linter.all false
set_option maxRecDepth 100000
set_option maxHeartbeats 4000000
namespace Wr
open PySem PySem.Spec PyProof.Rows L2 Evl
section
variable {K : PySem.W.Frag} {b : List Addr} {a : Addr} {n m k : Nat} {σ : L2.St} {H H' : Hp} {ta tb te : TE} {t : TA} {P : PyData → Prop} {d : PyData} {ds es : List PyData} {D : Ends}
/-- a tuple's beginning, how much is drawn -/
theorem eg_slT {P1 P2 : PyData → Prop} (ha : a ∈ b) (h1 : EG K b a n k ta σ H P1) (h2 : EG K b a k m te σ H P2) (hi : ∀ d e, P1 d → P2 e → ∃ ds i, d = .tuple ds ∧ e = .int i ∧ P (.tuple (cutD ds none (some i)))) : EG K b a n m (tSl (rSlF K) ta tNoPart (tPart te)) σ H P := fun H1 x1 kn bg Q q =>
  h1 H1 x1 kn bg _ fun x d H2 x2 b2 hx p1 => h2 H2 (x1.trans x2) (x2.kn kn b2) b2 _ fun y e H3 x3 b3 hy p2 => by
    obtain ⟨ds, i, rfl, rfl, p⟩ := hi d e p1 p2
    have hx3 := hx.upB ha x3
    have hx4 := hx3
    have kn3 := x3.kn (x2.kn kn b2) b3
    cases hx4 with
    | tup g1 gn g2 =>
      refine ⟨i, dq_int hy, _, _, rfl, ex_t hid_le g1, fun e => ?_, fun r o hr ho => ?_⟩
      · have e2 : DdAll K (hid b H3) _ (cutD ds none (some i)) := cut_dps g2 none (some i)
        rw [← e] at e2
        exact q _ _ H3 (x2.trans x3) b3 (.tup g1 gn e2) p
      · exact q _ _ _ ((x2.trans x3).trans (exb (Ex.new hr))) (b3.ex (Ex.new hr)) (dq_newT kn3 hr ho (cut_dps g2 none (some i))) p
/-- a text's beginning -/
theorem eg_slS {P1 P2 : PyData → Prop} (h1 : EG K b a n k ta σ H P1) (h2 : EG K b a k m te σ H P2) (hi : ∀ d e, P1 d → P2 e → ∃ z i, d = .str z ∧ e = .int i ∧ z.length ≤ 1000 ∧ P (.str (cutS z none (some i)))) : EG K b a n m (tSl rSlS ta tNoPart (tPart te)) σ H P := fun H1 x1 kn bg Q q =>
  h1 H1 x1 kn bg _ fun x d H2 x2 b2 hx p1 => h2 H2 (x1.trans x2) (x2.kn kn b2) b2 _ fun y e H3 x3 b3 hy p2 => by
    obtain ⟨z, i, rfl, rfl, hz, p⟩ := hi d e p1 p2
    have hsl : sizeLine = 16777216 := sizeLine_eq
    exact ⟨i, dq_int hy, z, dq_str hx, by omega, q _ _ H3 (x2.trans x3) b3 (.str _) p⟩
theorem eg_addT {P1 P2 : PyData → Prop} (ha : a ∈ b) (h1 : EG K b a n k ta σ H P1) (h2 : EG K b a k m tb σ H P2) (hi : ∀ d e, P1 d → P2 e → ∃ x y, d = .str x ∧ e = .str y ∧ x.length + y.length ≤ sizeLine ∧ P (.str (x ++ y))) : EG K b a n m (tOp rAddT ta tb) σ H P :=
  eg_op ha h1 h2 fun d e H1 x y Q p1 p2 _ _ hx hy q => by
    obtain ⟨z, w, rfl, rfl, hl, p⟩ := hi d e p1 p2
    exact ⟨z, w, dq_str hx, dq_str hy, hl, q _ _ H1 (Ex.refl H1) (.str _) p⟩
/-- xs.append(..), the thing drawn -/
theorem g_appG {j : Nat} {F : Addr} {vs : List V} {P1 : PyData → Prop} (hσ : σ[j]? = some (some (.ref F))) (hFa : F ≠ a) (hF : H F = some (.lst vs)) (hl : vs.length < 10000000) (he : EG K b a n m te σ H P1) (kn : Kn b H) (bg : Bag a n H) (kk : ∀ y d H', ExB a H H' → Bag a m H' → Dq K b H' y d → P1 d → D.nx σ (upd H' F (.lst (vs ++ [y])))) : tDrop (tBM K "list" rAppend (tVar j) (tCons te tNil)) D σ H :=
  ⟨.ref F, hσ, .inl ⟨rfl, _, .inl (.inl hF)⟩, he H (ExB.refl a H) kn bg _ fun y d H' x b' hy p => ⟨F, vs, y, rfl, rfl, x _ _ hFa hF, by rw [sizeLine_eq]; omega, kk y d H' x b' hy p⟩⟩
end
/-! ### the parts that are drawn -/
def nmS (k : Nat) (t : Int) : Str := (⟨#[103 + k]⟩ : Str) ++ cutS "opqrstu" none (some t)
theorem nm_all : ((List.range 8).all fun k => (List.range 8).all fun t => nameS (nmS k (t : Nat)) && (PyData.strOk (nmS k (t : Nat)) && decide ((nmS k (t : Nat)).cps[0]? = some (103 + k)))) = true := by decide +kernel
theorem nm_at {k : Nat} {t : Int} (hk : k < 8) (t0 : 0 ≤ t) (t1 : t < 8) : nameS (nmS k t) = true ∧ PyData.strOk (nmS k t) = true ∧ (nmS k t).cps[0]? = some (103 + k) := by
  have h := List.all_eq_true.mp (List.all_eq_true.mp nm_all k (List.mem_range.mpr hk)) t.toNat (List.mem_range.mpr (by omega))
  rw [Int.toNat_of_nonneg t0, Bool.and_eq_true, Bool.and_eq_true] at h
  exact ⟨h.1, h.2.1, of_decide_eq_true h.2.2⟩
def abcS : List Str := ["a", "b", "c"]
def PartQ (j : Nat) (p : PyData) : Prop := ∃ (t m : Int) (w : Str), 0 ≤ t ∧ t < 8 ∧ 0 ≤ m ∧ m ≤ 3 ∧ (w = "back" ∨ w = "say") ∧ p = .tuple [.str (nmS j t), .tuple ((abcS.take m.toNat).map .str), .tuple [.tuple [.str "put", .int (j : Nat)], .tuple [.str w]]]
theorem abc_all : ((List.range 4).all fun m => namesD (.tuple ((abcS.take m).map .str)) && okD 1 (.tuple ((abcS.take m).map .str))) = true := by decide +kernel
theorem abc_at {m : Int} (h0 : 0 ≤ m) (h1 : m ≤ 3) : namesD (.tuple ((abcS.take m.toNat).map .str)) = true ∧ okD 1 (.tuple ((abcS.take m.toNat).map .str)) = true := by
  have h := List.all_eq_true.mp abc_all m.toNat (List.mem_range.mpr (by omega))
  rw [Bool.and_eq_true] at h
  exact h
theorem abc_cut {m : Int} (h0 : 0 ≤ m) (h1 : m ≤ 3) : cutD (abcS.map .str) none (some m) = (abcS.take m.toNat).map .str := by
  rcases (show m = 0 ∨ m = 1 ∨ m = 2 ∨ m = 3 by omega) with rfl | rfl | rfl | rfl <;> rfl
theorem name_short {x : Str} (h : nameS x = true) : x.length ≤ 8 := by
  unfold nameS at h
  rw [Bool.and_eq_true] at h
  exact of_decide_eq_true h.1
def PrgP (d : PyData) : Prop := ∃ ds, d = .tuple ds ∧ progD (.tuple ds) = true ∧ okD 30 (.tuple ds) = true
theorem back_lone : inD (.str "back") (loneW.map .str) = true ∧ inD (.str "say") (loneW.map .str) = true := by
  rw [inD_str, inD_str]
  decide +kernel
theorem prog_ok {ds : List PyData} (h1 : 1 ≤ ds.length) (h8 : ds.length ≤ 8) (h : ∀ j p, ds[j]? = some p → PartQ j p) : PrgP (.tuple ds) := by
  have hm : ∀ p ∈ ds, ∃ j, j < 8 ∧ PartQ j p := fun p hp => by
    obtain ⟨j, hj, e⟩ := List.mem_iff_getElem.mp hp
    exact ⟨j, by omega, h j p (by rw [List.getElem?_eq_getElem hj, e])⟩
  have hok : ∀ p ∈ ds, okD 5 p = true := fun p hp => by
    obtain ⟨j, hj, t, m, w, t0, t1, m0, m1, hw, rfl⟩ := hm p hp
    obtain ⟨n1, n2, _⟩ := nm_at hj t0 t1
    have o1 : okD 4 (.str (nmS j t)) = true := by
      show (PyData.strOk _ && decide _) = true
      rw [n2, decide_eq_true (by have := name_short n1; omega)]
      rfl
    have o2 : okD 4 (.tuple ((abcS.take m.toNat).map .str)) = true := ok_up (abc_at m0 m1).2 (by omega)
    have oj : okD 2 (.int (j : Nat)) = true := decide_eq_true (by
      have : (10 : Nat) < 10 ^ 45 := by decide
      omega)
    have o3 : okD 4 (.tuple [.tuple [.str "put", .int (j : Nat)], .tuple [.str w]]) = true := by
      have e : okD 3 (.tuple [.str "put", .int (j : Nat)]) = true := by
        show (decide (2 ≤ 1000) && (okD 2 (.str "put") && (okD 2 (.int (j : Nat)) && true))) = true
        rw [oj, show okD 2 (.str "put") = true by decide +kernel]
        rfl
      have e2 : okD 3 (.tuple [.str w]) = true := by
        rcases hw with rfl | rfl <;> decide +kernel
      show (decide (2 ≤ 1000) && (okD 3 (.tuple [.str "put", .int (j : Nat)]) && (okD 3 (.tuple [.str w]) && true))) = true
      rw [e, e2]
      rfl
    show (decide (3 ≤ 1000) && (okD 4 (.str (nmS j t)) && (okD 4 (.tuple ((abcS.take m.toNat).map .str)) && (okD 4 (.tuple [.tuple [.str "put", .int (j : Nat)], .tuple [.str w]]) && true)))) = true
    rw [o1, o2, o3]
    rfl
  refine ⟨ds, rfl, ?_, ?_⟩
  · show (((decide (1 ≤ ds.length) && decide ((ds.length : Int) ≤ 8)) && (ds.all headedD && unlikeS (strsOf (ds.map fst)))) && ds.all fun p => rowsD (thd p) (strsOf (ds.map fst))) = true
    rw [decide_eq_true h1, decide_eq_true (by omega : (ds.length : Int) ≤ 8)]
    have e1 : ds.all headedD = true := List.all_eq_true.mpr fun p hp => by
      obtain ⟨j, hj, t, m, w, t0, t1, m0, m1, hw, rfl⟩ := hm p hp
      show (nameS (nmS j t) && namesD (.tuple ((abcS.take m.toNat).map .str))) = true
      rw [(nm_at hj t0 t1).1, (abc_at m0 m1).1]
      rfl
    have e2 : (ds.all fun p => rowsD (thd p) (strsOf (ds.map fst))) = true := List.all_eq_true.mpr fun p hp => by
      obtain ⟨j, hj, t, m, w, t0, t1, m0, m1, hw, rfl⟩ := hm p hp
      show ((decide (1 ≤ 2) && decide (2 ≤ 60)) && (rowD (.tuple [.str "put", .int (j : Nat)]) 0 2 _ && (rowD (.tuple [.str w]) 1 2 _ && true))) = true
      have r1 : rowD (.tuple [.str "put", .int (j : Nat)]) 0 2 (strsOf (ds.map fst)) = true := by
        rw [rowD_two, strEq, decide_eq_true rfl, if_pos rfl]
        show (decide (-1000000000000 ≤ ((j : Nat) : Int)) && decide (((j : Nat) : Int) ≤ 1000000000000)) = true
        rw [decide_eq_true (by omega), decide_eq_true (by omega)]
        rfl
      have r2 : rowD (.tuple [.str w]) 1 2 (strsOf (ds.map fst)) = true := by
        show inD (.str w) (loneW.map .str) = true
        rcases hw with rfl | rfl
        · exact back_lone.1
        · exact back_lone.2
      rw [r1, r2]
      rfl
    have e3 : unlikeS (strsOf (ds.map fst)) = true := by
      have hst : (ds.map fst).all (isD "str") = true := List.all_eq_true.mpr fun x hx => by
        obtain ⟨p, hp, rfl⟩ := List.mem_map.mp hx
        obtain ⟨j, hj, t, m, w, t0, t1, m0, m1, hw, rfl⟩ := hm p hp
        rfl
      have e4 := map_strsOf hst
      refine decide_eq_true ((uq_len_iff _).mpr ?_)
      have key : ∀ (j : Nat) (x : Str), (strsOf (ds.map fst))[j]? = some x → x.cps[0]? = some (103 + j) := fun j x hx => by
        have h2 : (ds.map fst)[j]? = some (.str x) := by rw [← e4, List.getElem?_map, hx]; rfl
        rw [List.getElem?_map] at h2
        cases hz : ds[j]? with
        | none => rw [hz] at h2; cases h2
        | some p =>
          rw [hz] at h2
          have h3 : fst p = .str x := Option.some.inj h2
          have hj : j < 8 := by
            have := (List.getElem?_eq_some_iff.mp hz).1
            omega
          obtain ⟨t, m, w, t0, t1, m0, m1, hw, rfl⟩ := h j p hz
          have h4 : PyData.str (nmS j t) = .str x := h3
          injection h4 with h4
          rw [← h4]
          exact (nm_at hj t0 t1).2.2
      refine List.pairwise_iff_getElem.mpr fun i j hi hj hij e => ?_
      have k1 := key j _ (List.getElem?_eq_getElem hj)
      have k2 := key i _ (List.getElem?_eq_getElem hi)
      rw [e, k1] at k2
      have := Option.some.inj k2
      omega
    rw [e1, e2, e3]
    rfl
  · refine ok_up (n := 6) ?_ (by omega)
    show (decide (ds.length ≤ 1000) && ds.all (okD 5)) = true
    rw [decide_eq_true (by omega), List.all_eq_true.mpr hok]
    rfl
end Wr

set_option Elab.async false
set_option linter.all false
set_option maxRecDepth 100000
set_option maxHeartbeats 4000000
namespace Wr
open PySem PySem.Spec PyProof.Rows L2 Evl
abbrev s_prg : Stmt := topS 34
abbrev NPg : List Str := ["_law_bag_here", "_law_parts", "_law_k", "_law_names", "_law_rows"]
theorem sc_prg : FnScope NPg ["_law_bag_here"] (defScope s_prg) := ⟨rfl, rfl, rfl, by decide +kernel, rfl, by decide +kernel, by decide +kernel⟩
theorem ghi_at {i : Nat} (h : i < 8) : atI ("ghijklmn" : Str).cps.toList (0 + (i : Int)) = some (103 + i) := by
  have e : ("ghijklmn" : Str).cps.toList = (List.range 8).map (103 + ·) := by decide +kernel
  rw [Int.zero_add]
  refine atI_nat ?_
  rw [e, List.getElem?_map, List.getElem?_range h]
  rfl
section
variable {P : Program} {w : World} {K : PySem.W.Frag} {mg : Str → Option Value} {base : Heap} {f g g2 : Addr} {fd gd gd2 : FuncData}
theorem ok_prg (D : Def K mg "_law_program" s_prg ["_law_bag_here"] f fd) (D1 : Def K mg "_law_take" s_take ["_law_bag_here", "_law_many"] g gd) (B : Blt mg) :
    FnOk P w K mg base CX0 2 f fd ["_law_bag_here"] (spG K 33 (· = []) fun _ d => PrgP d) := by
  refine D.F.ok sc_prg (fun vs H Q E h => spG_len (fun ds e => by rw [e]; rfl) h) (fun cdv A outer s H vs Q E hr h => ?_)
  obtain ⟨b, a, k, ws, ds, rfl, hab, kn, bg, hd, rfl, q⟩ := h
  cases hd
  have G1 := ok_take (P := P) (w := w) (base := base) D1
  refine ⟨_, pss_cons (ps_set (i := 1) sc_prg.nd rfl (Or.inl rfl) (pe_lst pa_nil))
    (pss_cons (ps_for PassesOwn.never rfl (pi_range1 rfl B.range (pa_cons (pe_op op_add pe_int (pe_cd D1 G1 hr (pa_cons (pv 0) (pa_cons pe_int pa_nil)))) pa_nil)) (pg_name (i := 2) sc_prg.nd rfl (Or.inl rfl))
      (pss_cons (ps_set (i := 3) sc_prg.nd rfl (Or.inl rfl) (pe_slice sl_tupF (pe_tupF (pa_cons pe_str (pa_cons pe_str (pa_cons pe_str pa_nil)))) po_none (po_some (pe_ix ix_list (pe_lst (pa_cons pe_int (pa_cons (pe_cd D1 G1 hr (pa_cons (pv 0) (pa_cons pe_int pa_nil))) pa_nil))) (pe_cd D1 G1 hr (pa_cons (pv 0) (pa_cons pe_int pa_nil))) (fun _ _ => rfl)))))
      (pss_cons (ps_set (i := 4) sc_prg.nd rfl (Or.inl rfl) (pe_tupF (pa_cons (pe_tupF (pa_cons pe_str (pa_cons (pv 2) pa_nil))) (pa_cons (pe_ix ix_list (pe_lst (pa_cons (pe_tupF (pa_cons pe_str pa_nil)) (pa_cons (pe_tupF (pa_cons pe_str pa_nil)) (pa_cons (pe_tupF (pa_cons pe_str pa_nil)) pa_nil)))) (pe_cd D1 G1 hr (pa_cons (pv 0) (pa_cons pe_int pa_nil))) (fun _ _ => rfl)) pa_nil))))
      (pss_one (ps_expr (pe_bm PySem.F.plainAttrs_list PySem.F.slot_list_append PySem.F.type_list_append mt_append (pv 1) (pa_cons (pe_tupF (pa_cons (pe_op op_addT (pe_ix ix_str pe_str (pv 2) (fun _ _ => rfl)) (pe_slice sl_str pe_str po_none (po_some (pe_cd D1 G1 hr (pa_cons (pv 0) (pa_cons pe_int pa_nil)))))) (pa_cons (pv 3) (pa_cons (pv 4) pa_nil)))) pa_nil)))))))
    (pss_one (ps_ret (pe_callTy call_tupF rfl B.tuple bt_tuple (pa_cons (pv 1) pa_nil))))), ?_⟩
  have hsl : sizeLine = 16777216 := sizeLine_eq
  refine ⟨Nat.zero_le _, fun F hF => ?_⟩
  have x0 : Ex H (upd H F (.lst [])) := Ex.new hF
  have hFa : F ≠ a := fun e => bg.there (e ▸ hF)
  have hFb : F ∉ b := fun e => kn F e hF
  have haF : a ∈ F :: b := List.mem_cons_of_mem _ hab
  have kn0 : Kn (F :: b) (upd H F (.lst [])) := fun c hc => by
    rcases List.mem_cons.mp hc with rfl | hc
    · rw [upd_same]; intro z; cases z
    · exact kn.up x0 c hc
  have bg0 : Bag a (k + 32 + 1) (upd H F (.lst [])) := bg.ex x0
  have hF0 : upd H F (.lst []) F = some (.lst []) := upd_same
  generalize upd H F (.lst []) = H0 at x0 kn0 bg0 hF0
  show tSeq _ _ _ [some (.ref a), some (.ref F), none, none, none] H0
  refine (eg_I0 (K := K) (b := F :: b) (g := fun i j => i + j) (n := k + 32 + 1) (m := k + 32) (P := fun d => ∃ N : Int, d = .int N ∧ 1 ≤ N ∧ N ≤ 8) haF (eg_pure (P := (· = .int 1)) (fun _ _ _ => ed_int) rfl) (eg_take (n := k + 32) (σ := [some (V.ref a), some (.ref F), none, none, none]) haF rfl (by decide) (by decide)) (fun d e hd ⟨r, er, r0, r1⟩ => ⟨1, r, hd, er, 1 + r, rfl, by omega, by omega⟩)) H0 (ExB.refl a H0) kn0 bg0 _ fun vN dN H1 x1 b1 hvN ⟨N, eN, N1, N8⟩ => ?_
  subst eN
  have eN := dq_int hvN
  subst eN
  refine ⟨N, rfl, by omega, by omega, ?_⟩
  refine for_range (Pv := fun i σ' H' => (∃ y2 y3 y4, σ' = [some (.ref a), some (.ref F), y2, y3, y4]) ∧ (∀ c o, c ≠ a → c ≠ F → H1 c = some o → H' c = some o) ∧ Bag a (k + 4 * (8 - i)) H' ∧ ∃ vs ds, H' F = some (.lst vs) ∧ DqAll K (F :: b) H' vs ds ∧ ds.length = i ∧ ∀ j p, ds[j]? = some p → PartQ j p) ?_ ?_ ?_
  · exact ⟨⟨none, none, none, rfl⟩, fun c o _ _ h => h, b1, [], [], x1 _ _ hFa hF0, .nil, rfl, fun j p h => by simp at h⟩
  · intro i σ' H2 hi ⟨⟨y2, y3, y4, eσ⟩, hg, b2, vs, ds, hF2, hds, hl, hR⟩
    subst eσ
    have hi8 : i < 8 := by omega
    have kn2 : Kn (F :: b) H2 := fun c hc => by
      rcases List.mem_cons.mp hc with rfl | hc
      · rw [hF2]; intro z; cases z
      · by_cases e : c = a
        · subst e; exact b2.there
        · have cF : c ≠ F := fun e => hFb (e ▸ hc)
          have h1 := x1.kn kn0 b1 c (List.mem_cons_of_mem _ hc)
          cases z : H1 c with
          | none => exact absurd z h1
          | some o => rw [hg c o e cF z]; intro z'; cases z'
    have bk : k + 4 * (8 - i) = (k + 4 * (8 - (i + 1))) + 1 + 1 + 1 + 1 := by omega
    generalize hkk : k + 4 * (8 - (i + 1)) = kk at bk
    rw [bk] at b2
    show tSeq _ _ _ [some (.ref a), some (.ref F), some (.int (0 + (i : Int))), y3, y4] H2
    refine g_setG (K := K) (b := F :: b) (a := a) (n := kk + 1 + 1 + 1 + 1) (k := kk + 1 + 1) (P1 := fun d => ∃ m : Int, 0 ≤ m ∧ m ≤ 3 ∧ d = .tuple ((abcS.take m.toNat).map .str)) (eg_slT haF (eg_pure (P := (· = .tuple (abcS.map .str))) (fun H' x' kn' => ed_tup (ds := abcS.map .str) kn' (ea_cons ed_str (ea_cons ed_str (ea_cons ed_str ea_nil))) (by decide)) rfl)
      (eg_ixL haF (P := fun d => ∃ m : Int, d = .int m ∧ 0 ≤ m ∧ m ≤ 3) (eg_lst (P := fun d => ∃ r : Int, d = .list [.int 3, .int r] ∧ 0 ≤ r ∧ r ≤ 3) (ega_cons (P := (· = .int 3)) haF (eg_pure (fun _ _ _ => ed_int) rfl) (ega_cons haF (eg_take (n := kk + 1 + 1 + 1) haF rfl (by decide) (by decide)) ega_nil)) ?_) (eg_take (n := kk + 1 + 1) haF rfl (by decide) (by decide)) ?_) ?_) kn2 b2 fun v3 d3 H3 x3 b3 kn3 hv3 ⟨m, m0, m3, e3⟩ => ?_
    · rintro l ⟨d1, r1, rfl, rfl, d2, r2, rfl, ⟨r, rfl, r0, r4⟩, rfl⟩
      exact ⟨by rw [hsl]; show 2 ≤ 16777216; decide, r, rfl, r0, by omega⟩
    · rintro d e ⟨r, rfl, r0, r3⟩ ⟨j, rfl, j0, j1⟩
      rcases (show j = 0 ∨ j = 1 by omega) with rfl | rfl
      · exact ⟨_, 0, _, rfl, rfl, atI0 _ _, 3, rfl, by decide, by decide⟩
      · exact ⟨_, 1, _, rfl, rfl, atI1 _ _ _, r, rfl, r0, r3⟩
    · rintro d e rfl ⟨m, rfl, m0, m3⟩
      exact ⟨_, m, rfl, rfl, m, m0, m3, by rw [abc_cut m0 m3]⟩
    subst e3
    show tSeq _ _ _ [some (.ref a), some (.ref F), some (.int (0 + (i : Int))), some v3, y4] H3
    refine g_setG (K := K) (b := F :: b) (a := a) (n := kk + 1 + 1) (k := kk + 1) (P1 := fun d => ∃ w' : Str, (w' = "back" ∨ w' = "say") ∧ d = .tuple [.tuple [.str "put", .int (i : Nat)], .tuple [.str w']]) (eg_tup (ega_cons (P := (· = .tuple [.str "put", .int (i : Nat)])) (k := kk + 1 + 1) haF (eg_pure (fun H' x' kn' => (ed_tup (ds := [.str "put", .int (0 + (i : Int))]) kn' (ea_cons ed_str (ea_cons (ed_var (i := 2) (d := .int (0 + (i : Int))) rfl (.int _)) ea_nil)) (by rw [hsl]; show 2 ≤ 16777216; decide)).to (by rw [Int.zero_add])) rfl)
      (ega_cons (P := fun d => ∃ w' : Str, (w' = "back" ∨ w' = "say") ∧ d = .tuple [.str w']) haF (eg_ixL haF (eg_pure (P := (· = .list [.tuple [.str "back"], .tuple [.str "back"], .tuple [.str "say"]])) (fun H' x' kn' => ed_lst (ds := [.tuple [.str "back"], .tuple [.str "back"], .tuple [.str "say"]]) kn' (ea_cons (ed_tup kn' (ea_cons ed_str ea_nil) (by decide)) (ea_cons (ed_tup kn' (ea_cons ed_str ea_nil) (by decide)) (ea_cons (ed_tup kn' (ea_cons ed_str ea_nil) (by decide)) ea_nil))) (by decide)) rfl) (eg_take (n := kk + 1) haF rfl (by decide) (by decide)) ?_) ega_nil)) ?_) kn3 b3 fun v4 d4 H4 x4 b4 kn4 hv4 ⟨w', hw, e4⟩ => ?_
    · rintro d e rfl ⟨j, rfl, j0, j1⟩
      rcases (show j = 0 ∨ j = 1 ∨ j = 2 by omega) with rfl | rfl | rfl
      · exact ⟨_, 0, _, rfl, rfl, atI0 _ _, "back", .inl rfl, rfl⟩
      · exact ⟨_, 1, _, rfl, rfl, atI1 _ _ _, "back", .inl rfl, rfl⟩
      · exact ⟨_, 2, _, rfl, rfl, atI2 _ _ _ _, "say", .inr rfl, rfl⟩
    · rintro l ⟨d1, r1, rfl, rfl, d2, r2, rfl, ⟨w', hw, rfl⟩, rfl⟩
      exact ⟨by rw [hsl]; show 2 ≤ 16777216; decide, w', hw, rfl⟩
    subst e4
    show tDrop _ _ [some (.ref a), some (.ref F), some (.int (0 + (i : Int))), some v3, some v4] H4
    have hv3' := Dq.upB haF hv3 x4
    have lvs : vs.length < 10000000 := by
      rw [dps_len hds]
      omega
    refine g_appG (K := K) (b := F :: b) (a := a) (n := kk + 1) (m := kk) (F := F) (P1 := PartQ i) (j := 1) rfl hFa (x4 _ _ hFa (x3 _ _ hFa hF2)) lvs (eg_tup (ega_cons (P := fun d => ∃ t : Int, d = .str (nmS i t) ∧ 0 ≤ t ∧ t < 8) (k := kk) haF (eg_addT haF (eg_pure (P := (· = .str ⟨#[103 + i]⟩)) (fun H' x' kn' => ed_ixS (z := "ghijklmn") ed_str (ed_var (i := 2) (d := .int (0 + (i : Int))) rfl (.int _)) (by rw [hsl]; decide +kernel) (ghi_at hi8)) rfl)
        (eg_slS (P := fun d => ∃ t : Int, d = .str (cutS "opqrstu" none (some t)) ∧ 0 ≤ t ∧ t < 8) (eg_pure (P := (· = .str "opqrstu")) (fun H' x' kn' => ed_str) rfl) (eg_take (n := kk) haF rfl (by decide) (by decide)) ?_) ?_)
      (ega_cons (P := (· = .tuple ((abcS.take m.toNat).map .str))) (k := kk) haF (eg_var (i := 3) rfl haF hv3' rfl) (ega_cons (P := (· = .tuple [.tuple [.str "put", .int (i : Nat)], .tuple [.str w']])) (k := kk) haF (eg_var (i := 4) rfl haF hv4 rfl) ega_nil))) ?_) kn4 b4 fun y d5 H5 x5 b5 hy p5 => ?_
    · rintro d e rfl ⟨t, rfl, t0, t8⟩
      exact ⟨_, t, rfl, rfl, by decide +kernel, t, rfl, t0, t8⟩
    · rintro d e rfl ⟨t, rfl, t0, t8⟩
      refine ⟨_, _, rfl, rfl, ?_, t, rfl, t0, t8⟩
      have h1 := cutS_length "opqrstu" none (some t)
      have h2 : ("opqrstu" : Str).length = 7 := by decide +kernel
      have h3 : (⟨#[103 + i]⟩ : Str).length = 1 := rfl
      omega
    · rintro l ⟨d1, r1, rfl, ⟨t, rfl, t0, t8⟩, d2, r2, rfl, rfl, d3, r3, rfl, rfl, rfl⟩
      exact ⟨by rw [hsl]; show 3 ≤ 16777216; decide, t, m, w', t0, t8, m0, m3, hw, rfl⟩
    refine ⟨⟨_, _, _, rfl⟩, fun c o ca cF z => ?_, ?_, vs ++ [y], ds ++ [d5], upd_same, ?_, ?_, fun j p hj => ?_⟩
    · rw [upd_ne cF]
      exact x5 _ _ ca (x4 _ _ ca (x3 _ _ ca (hg c o ca cF z)))
    · obtain ⟨g', x', c', h1, r'⟩ := b5
      exact ⟨g', x', c', by rw [upd_ne (Ne.symm hFa)]; exact h1, r'⟩
    · exact dps_ex put_ex _ _ (dps_app (DqAll.upB haF (DqAll.upB haF (DqAll.upB haF hds x3) x4) x5) (.cons hy .nil))
    · rw [List.length_append, hl]
      rfl
    · by_cases hjl : j < ds.length
      · rw [List.getElem?_append_left hjl] at hj
        exact hR j p hj
      · rw [List.getElem?_append_right (by omega)] at hj
        have hz : j - ds.length = 0 := by
          by_cases hz : j - ds.length = 0
          · exact hz
          · rw [List.getElem?_eq_none (by rw [List.length_singleton]; omega)] at hj
            cases hj
        rw [hz] at hj
        have ex : d5 = p := Option.some.inj hj
        have ej : j = i := by omega
        rw [ej, ← ex]
        exact p5
  · intro σ' H2 ⟨⟨y2, y3, y4, eσ⟩, hg, b2, vs, ds, hF2, hds, hl, hR⟩
    subst eσ
    refine ⟨.ref F, rfl, F, vs, rfl, .inl (.inl hF2), fun l o hl' ho => ?_⟩
    have kn2 : Kn b H2 := fun c hc => by
      by_cases e : c = a
      · subst e; exact b2.there
      · have cF : c ≠ F := fun e => hFb (e ▸ hc)
        have h1 := x1.kn kn0 b1 c (List.mem_cons_of_mem _ hc)
        cases z : H1 c with
        | none => exact absurd z h1
        | some o => rw [hg c o e cF z]; intro z'; cases z'
    refine q _ (.tuple ds) _ (fun c o' ca z => ?_) ((b2.ex (Ex.new hl')).le (by omega)) (dq_newT kn2 hl' ho (dps_ex show_ex _ _ hds)) (prog_ok (by omega) (by omega) hR)
    have cF : c ≠ F := fun e => by rw [e, hF] at z; cases z
    exact Ex.new hl' _ _ (hg c o' ca cF (x1 _ _ ca (x0 _ _ z)))
end
end Wr

set_option Elab.async false
set_option linter.all false
set_option maxRecDepth 100000
set_option maxHeartbeats 4000000
namespace Wr
open PySem PySem.Spec PyProof.Rows L2 Evl
abbrev s_kd : Stmt := topS 35
abbrev s_lw : Stmt := topS 36
abbrev s_odd : Stmt := topS 37
abbrev NKd : List Str := ["_law_bag_here", "_law_left", "_law_found", "_law_k"]
theorem sc_kd : FnScope NKd ["_law_bag_here"] (defScope s_kd) := ⟨rfl, rfl, rfl, by decide +kernel, rfl, by decide +kernel, by decide +kernel⟩
abbrev NLo : List Str := ["_law_bag_here", "_law_program_here", "_law_last", "_law_first"]
theorem sc_lw : FnScope NLo ["_law_bag_here", "_law_program_here"] (defScope s_lw) := ⟨rfl, rfl, rfl, by decide +kernel, rfl, by decide +kernel, by decide +kernel⟩
theorem sc_odd : FnScope ["_law_bag_here", "_law_some"] ["_law_bag_here"] (defScope s_odd) := ⟨rfl, rfl, rfl, by decide +kernel, rfl, by decide +kernel, by decide +kernel⟩
def KindsP (d : PyData) : Prop := ∃ fs : List Str, d = .tuple (fs.map .str) ∧ 1 ≤ fs.length ∧ fs.length ≤ 5 ∧ ∀ x ∈ fs, x ∈ kindW
def WhereP (d : PyData) : Prop := d = .none ∨ ∃ (x : Str) (i j : Int), d = .tuple [.str x, .int i, .int j] ∧ PyData.strOk x = true ∧ x.length ≤ 8 ∧ 0 ≤ i ∧ i < 60 ∧ 0 ≤ j ∧ j < 60
def oddA : List PyData := [.none, .bool true, .bool false, .int 0, .int (-1), .int 60, .int 1000000000000000000000000000000000000000, .str "", .str "row", .str "g h", .str "zz", .str "Row", .tuple [], .list [], .tuple [.str "row"], .list [.str "row"]]
def oddB : List PyData := [.tuple [.str "row", .int 1], .tuple [.str "row", .str "row"], .tuple [.str "g", .int 0, .int 0], .tuple [.tuple [.str "row"]], .tuple [.str "call", .str "rows"]]
theorem odd_ok {z : PyData} (h : z ∈ oddA ++ oddB) : okD 3 z = true := by
  have q : ((oddA ++ oddB).all (okD 3)) = true := by decide +kernel
  exact List.all_eq_true.mp q z h
section
variable {K : PySem.W.Frag} {b : List Addr} {a : Addr} {n m k : Nat} {σ : L2.St} {H H' : Hp} {ta tb te : TE} {t : TA} {t1 t2 : TS} {P : PyData → Prop} {d : PyData} {ds es : List PyData} {D : Ends}
theorem ed_lenL {c : Addr} {vs : List V} {j : Nat} (hs : σ[j]? = some (some (.ref c))) (h : H c = some (.lst vs)) : ED K b (tCB (rLen K) (tCons (tVar j) tNil)) σ H (.int (vs.length : Nat)) := fun H1 x1 Q q =>
  ⟨.ref c, hs, .ref c, vs.length, rfl, .inl ⟨vs, .inl (.inl (x1 _ _ h)), rfl⟩, q _ H1 (Ex.refl H1) (.int _)⟩
theorem eg_eqI {P1 : PyData → Prop} {u : Int} (ha : a ∈ b) (h1 : EG K b a n m te σ H P1) (hi : ∀ d, P1 d → ∃ i, d = .int i) : EG K b a n m (tOp (rEqD K) te (tC (.int u))) σ H (fun d => ∃ c, d = .bool c) :=
  eg_op ha h1 (eg_pure (P := (· = .int u)) (fun _ _ _ => ed_int) rfl) fun d e H1 x y Q p1 p2 _ _ hx hy q => by
    obtain ⟨i, rfl⟩ := hi d p1
    subst p2
    exact ⟨_, _, hx.dp, hy.dp, sh_int _, sh_int _, q _ _ H1 (Ex.refl H1) (.bl _) ⟨_, rfl⟩⟩
/-- if .., where the test draws -/
theorem gs_ifG (h : EG K b a n k te σ H (fun d => ∃ c, d = .bool c)) (h1 : ∀ H1, ExB a H H1 → GS K b a k m t1 σ H1 P) (h2 : ∀ H1, ExB a H H1 → GS K b a k m t2 σ H1 P) : GS K b a n m (tSeq (tIfS (tTest te) t1 tNext) t2) σ H P := fun H1 x1 kn bg D q =>
  h H1 x1 kn bg _ fun v d H2 x2 b2 hv ⟨c, ec⟩ => by
    subst ec
    refine ⟨c, dq_bl hv, ?_⟩
    cases c with
    | true =>
      rw [if_pos rfl]
      exact h1 H2 (x1.trans x2) H2 (ExB.refl a H2) (x2.kn kn b2) b2 _ fun v d H3 x3 b3 hv p => q v d H3 (x2.trans x3) b3 hv p
    | false =>
      rw [if_neg Bool.false_ne_true]
      exact h2 H2 (x1.trans x2) H2 (ExB.refl a H2) (x2.kn kn b2) b2 _ fun v d H3 x3 b3 hv p => q v d H3 (x2.trans x3) b3 hv p
theorem eg_ixT {P1 P2 : PyData → Prop} (ha : a ∈ b) (h1 : EG K b a n k ta σ H P1) (h2 : EG K b a k m tb σ H P2) (hi : ∀ d e, P1 d → P2 e → ∃ ds i z, d = .tuple ds ∧ e = .int i ∧ atI ds i = some z ∧ P z) : EG K b a n m (tOp (rIxT K) ta tb) σ H P :=
  eg_op ha h1 h2 fun d e H1 x y Q p1 p2 _ _ hx hy q => by
    obtain ⟨ds, i, z, rfl, rfl, hz, p⟩ := hi d e p1 p2
    cases hx with
    | tup g1 _ g2 =>
      obtain ⟨v, q1, q2⟩ := dps_atI g2 hz
      exact ⟨_, _, i, v, rfl, dq_int hy, ex_t hid_le g1, q1, q v z H1 (Ex.refl H1) q2 p⟩
end
section
variable {P : Program} {w : World} {K : PySem.W.Frag} {mg : Str → Option Value} {base : Heap} {f g g2 : Addr} {fd gd gd2 : FuncData}
theorem ok_odd (D : Def K mg "_law_odd" s_odd ["_law_bag_here"] f fd) (D1 : Def K mg "_law_take" s_take ["_law_bag_here", "_law_many"] g gd) :
    FnOk P w K mg base CX0 2 f fd ["_law_bag_here"] (spG K 1 (· = []) fun _ d => okD 3 d = true) := by
  refine D.F.ok sc_odd (fun vs H Q E h => spG_len (fun ds e => by rw [e]; rfl) h) (fun cdv A outer s H vs Q E hr h => ?_)
  obtain ⟨b, a, k, ws, ds, rfl, hab, kn, bg, hd, rfl, q⟩ := h
  cases hd
  have G1 := ok_take (P := P) (w := w) (base := base) D1
  refine ⟨_, pss_cons (ps_set (i := 1) sc_odd.nd rfl (Or.inl rfl) (pe_lst (pa_cons pe_non (pa_cons pe_bl (pa_cons pe_bl (pa_cons pe_int (pa_cons (pe_un un_neg pe_int) (pa_cons pe_int (pa_cons (pe_op op_powW pe_int pe_int) (pa_cons pe_str (pa_cons pe_str (pa_cons pe_str (pa_cons pe_str (pa_cons pe_str (pa_cons (pe_tupF pa_nil) (pa_cons (pe_lst pa_nil) (pa_cons (pe_tupF (pa_cons pe_str pa_nil)) (pa_cons (pe_lst (pa_cons pe_str pa_nil)) pa_nil))))))))))))))))))
    (pss_cons (ps_set (i := 1) sc_odd.nd rfl (Or.inl rfl) (pe_op op_cat (pv 1) (pe_lst (pa_cons (pe_tupF (pa_cons pe_str (pa_cons pe_int pa_nil))) (pa_cons (pe_tupF (pa_cons pe_str (pa_cons pe_str pa_nil))) (pa_cons (pe_tupF (pa_cons pe_str (pa_cons pe_int (pa_cons pe_int pa_nil)))) (pa_cons (pe_tupF (pa_cons (pe_tupF (pa_cons pe_str pa_nil)) pa_nil)) (pa_cons (pe_tupF (pa_cons pe_str (pa_cons pe_str pa_nil))) pa_nil))))))))
    (pss_one (ps_ret (pe_ix ix_list (pv 1) (pe_cd D1 G1 hr (pa_cons (pv 0) (pa_cons pe_int pa_nil))) (fun _ _ => rfl))))), ?_⟩
  have pw2 : ∀ {σ'} {H'}, ED K b (tOp (rI CPowW fun i j => .int (i ^ j.toNat)) (tC (.int 10)) (tC (.int 39))) σ' H' (.int 1000000000000000000000000000000000000000) := fun {_ _} => ed_I ed_int ed_int ⟨by decide, by decide, by decide⟩ fun _ => .int _
  refine g_lst (K := K) (b := b) (ds := oddA) kn (ea_cons ed_non (ea_cons ed_bl (ea_cons ed_bl (ea_cons ed_int (ea_cons (ed_neg ed_int) (ea_cons ed_int (ea_cons pw2 (ea_cons ed_str (ea_cons ed_str (ea_cons ed_str (ea_cons ed_str (ea_cons ed_str (ea_cons (ed_tup kn ea_nil (by decide)) (ea_cons (ed_lst kn ea_nil (by decide)) (ea_cons (ed_tup kn (ea_cons ed_str ea_nil) (by decide)) (ea_cons (ed_lst kn (ea_cons ed_str ea_nil) (by decide)) ea_nil)))))))))))))))) (by decide) fun p vs H1 hp x1 h1 d1 => ?_
  have kn1 := kn.up x1
  refine g_cat (K := K) (b := b) (ds := oddA) (es := oddB) kn1 rfl h1 d1 (ea_cons (ed_tup kn1 (ea_cons ed_str (ea_cons ed_int ea_nil)) (by decide)) (ea_cons (ed_tup kn1 (ea_cons ed_str (ea_cons ed_str ea_nil)) (by decide)) (ea_cons (ed_tup kn1 (ea_cons ed_str (ea_cons ed_int (ea_cons ed_int ea_nil))) (by decide)) (ea_cons (ed_tup kn1 (ea_cons (ed_tup kn1 (ea_cons ed_str ea_nil) (by decide)) ea_nil) (by decide)) (ea_cons (ed_tup kn1 (ea_cons ed_str (ea_cons ed_str ea_nil)) (by decide)) ea_nil))))) (by decide) fun p2 us H2 hp2 x2 h2 d2 => ?_
  have dd : Dq K b H2 (.ref p2) (.list (oddA ++ oddB)) := .lst (.inl (.inl (by rw [hid_ne (kn1.new hp2)]; exact h2))) d2
  have xx : Ex H H2 := x1.trans x2
  refine GS.fin (K := K) (b := b) (a := a) (n := k + 1) (m := k) (P := fun d => okD 3 d = true) (gs_ret (eg_ixL hab (eg_var (P := (· = .list (oddA ++ oddB))) (i := 1) rfl hab dd rfl) (eg_take (n := k) hab rfl (by decide) (by decide)) ?_)) (kn.up xx) (bg.ex xx) fun v d H' x' bg' hv p => q v d H' ((exb xx).trans x') bg' hv p
  rintro d e rfl hi'
  obtain ⟨j', z, rfl, hz, hm⟩ := intB_at (ds := oddA ++ oddB) hi' (by decide)
  exact ⟨_, j', z, rfl, rfl, hz, odd_ok hm⟩
theorem ok_lw (D : Def K mg "_law_where" s_lw ["_law_bag_here", "_law_program_here"] f fd) (D1 : Def K mg "_law_take" s_take ["_law_bag_here", "_law_many"] g gd) (B : Blt mg) :
    FnOk P w K mg base CX0 2 f fd ["_law_bag_here", "_law_program_here"] (spG K 7 (fun ds => ∃ ps, ds = [.tuple ps] ∧ PartsOk ps) fun _ d => WhereP d) := by
  refine D.F.ok sc_lw (fun vs H Q E h => spG_len (fun ds ⟨ps, e, _⟩ => by rw [e]; rfl) h) (fun cdv A outer s H vs Q E hr h => ?_)
  obtain ⟨b, a, k, ws, ds, rfl, hab, kn, bg, hd, ⟨ps, rfl, pok⟩, q⟩ := h
  obtain ⟨v, d', rfl, ed, h1⟩ := one_of hd rfl
  cases ed
  have G1 := ok_take (P := P) (w := w) (base := base) D1
  refine ⟨_, pss_cons (ps_if (pt_cmpR (op_eqD (hu64 hr)) (pe_cd D1 G1 hr (pa_cons (pv 0) (pa_cons pe_int pa_nil))) pe_int (nomark _)) (pss_one (ps_ret pe_non)) pss_nil)
    (pss_cons (ps_set (i := 2) sc_lw.nd rfl (Or.inl rfl) (pe_ix ix_list (pe_lst (pa_cons pe_int (pa_cons (pe_cd D1 G1 hr (pa_cons (pv 0) (pa_cons pe_int pa_nil))) (pa_cons (pe_cd D1 G1 hr (pa_cons (pv 0) (pa_cons pe_int pa_nil))) pa_nil)))) (pe_cd D1 G1 hr (pa_cons (pv 0) (pa_cons pe_int pa_nil))) (fun _ _ => rfl)))
    (pss_cons (ps_set (i := 3) sc_lw.nd rfl (Or.inl rfl) (pe_ix ix_list (pe_lst (pa_cons pe_int (pa_cons (pv 2) (pa_cons (pe_cd D1 G1 hr (pa_cons (pv 0) (pa_cons (pe_op op_add (pv 2) pe_int) pa_nil))) pa_nil)))) (pe_cd D1 G1 hr (pa_cons (pv 0) (pa_cons pe_int pa_nil))) (fun _ _ => rfl)))
    (pss_one (ps_ret (pe_tupF (pa_cons (pe_ix ix_tup (pe_ix ix_tup (pv 1) (pe_cd D1 G1 hr (pa_cons (pv 0) (pa_cons (pe_callB call_lenD1 rfl B.len bb_len (pa_cons (pv 1) pa_nil)) pa_nil))) (fun _ _ => rfl)) pe_int (fun _ _ => rfl)) (pa_cons (pv 3) (pa_cons (pv 2) pa_nil)))))))), ?_⟩
  have hsl : sizeLine = 16777216 := sizeLine_eq
  have hl8 := pok.1
  have hl1 := pok.2.1
  refine GS.fin (K := K) (b := b) (a := a) (n := k + 1 + 1 + 1 + 1 + 1 + 1 + 1) (m := k) (P := WhereP) (gs_ifG (k := k + 1 + 1 + 1 + 1 + 1 + 1) (eg_eqI hab (eg_take hab rfl (by decide) (by decide)) fun d ⟨r, e, _⟩ => ⟨r, e⟩) (fun H1 x1 => gs_ret (EG.le (eg_pure (te := tC .non) (fun _ _ _ => ed_non) (.inl rfl)) (by omega))) fun H1 x1 => ?_) kn bg fun v d H' x bg' hv p => q v d H' x bg' hv p
  refine gs_set (k := k + 1 + 1 + 1) (P1 := IntB 60) (eg_ixL hab (eg_lst (P := fun d => ∃ r s : Int, d = .list [.int 59, .int r, .int s] ∧ 0 ≤ r ∧ r < 60 ∧ 0 ≤ s ∧ s < 3) (ega_cons (P := (· = .int 59)) hab (eg_pure (fun _ _ _ => ed_int) rfl) (ega_cons hab (eg_take (n := k + 1 + 1 + 1 + 1 + 1) hab rfl (by decide) (by decide)) (ega_cons hab (eg_take (n := k + 1 + 1 + 1 + 1) hab rfl (by decide) (by decide)) ega_nil))) ?_) (eg_take (n := k + 1 + 1 + 1) hab rfl (by decide) (by decide)) ?_) fun v2 d2 H2 x2 hv2 ⟨last, e2, l0, l1⟩ => ?_
  · rintro l ⟨d1, r1, rfl, rfl, d2, r2, rfl, ⟨r, rfl, r0, r6⟩, d3, r3, rfl, ⟨s', rfl, s0, s3⟩, rfl⟩
    exact ⟨by rw [hsl]; show 3 ≤ 16777216; decide, r, s', rfl, r0, r6, s0, s3⟩
  · rintro d e ⟨r, s', rfl, r0, r6, s0, s3⟩ ⟨j, rfl, j0, j1⟩
    rcases (show j = 0 ∨ j = 1 ∨ j = 2 by omega) with rfl | rfl | rfl
    · exact ⟨_, 0, _, rfl, rfl, atI0 _ _, 59, rfl, by decide, by decide⟩
    · exact ⟨_, 1, _, rfl, rfl, atI1 _ _ _, r, rfl, r0, r6⟩
    · exact ⟨_, 2, _, rfl, rfl, atI2 _ _ _ _, s', rfl, s0, by omega⟩
  subst e2
  have e2 := dq_int hv2
  subst e2
  refine gs_set (k := k + 1) (P1 := IntB 60) (eg_ixL hab (eg_lst (P := fun d => ∃ s : Int, d = .list [.int 0, .int last, .int s] ∧ 0 ≤ s ∧ s < 60) (ega_cons (P := (· = .int 0)) hab (eg_pure (fun _ _ _ => ed_int) rfl) (ega_cons (P := (· = .int last)) hab (eg_pure (fun _ _ _ => ed_var (i := 2) (d := .int last) rfl (.int _)) rfl) (ega_cons hab (eg_takeE (u := 60) (n := k + 1 + 1 + 1) (m := k + 1 + 1) (P1 := (· = .int (last + 1))) hab rfl (eg_pure (fun _ _ _ => ed_add (ed_var (i := 2) (d := .int last) rfl (.int _)) ed_int) rfl) (fun d e => ⟨last + 1, e, by omega, by omega, by omega⟩)) ega_nil))) ?_) (eg_take (n := k + 1) hab rfl (by decide) (by decide)) ?_) fun v3 d3 H3 x3 hv3 ⟨first, e3, f0, f1⟩ => ?_
  · rintro l ⟨d1, r1, rfl, rfl, d2, r2, rfl, rfl, d3, r3, rfl, ⟨s', rfl, s0, s3⟩, rfl⟩
    exact ⟨by rw [hsl]; show 3 ≤ 16777216; decide, s', rfl, s0, s3⟩
  · rintro d e ⟨s', rfl, s0, s3⟩ ⟨j, rfl, j0, j1⟩
    rcases (show j = 0 ∨ j = 1 ∨ j = 2 by omega) with rfl | rfl | rfl
    · exact ⟨_, 0, _, rfl, rfl, atI0 _ _, 0, rfl, by decide, by decide⟩
    · exact ⟨_, 1, _, rfl, rfl, atI1 _ _ _, last, rfl, l0, l1⟩
    · exact ⟨_, 2, _, rfl, rfl, atI2 _ _ _ _, s', rfl, s0, by omega⟩
  subst e3
  have e3 := dq_int hv3
  subst e3
  have h13 : Dq K b H3 v (.tuple ps) := Dq.upB hab h1 ((x1.trans x2).trans x3)
  refine gs_ret (eg_tup (ega_cons (P := fun d => ∃ x : Str, d = .str x ∧ PyData.strOk x = true ∧ x.length ≤ 8) (k := k) hab (eg_ixT hab (eg_ixT (P := fun d => d ∈ ps) hab (eg_var (P := (· = .tuple ps)) (i := 1) rfl hab h13 rfl) (eg_takeE (u := (ps.length : Nat)) (n := k + 1) (m := k) (P1 := (· = .int (ps.length : Nat))) hab rfl (eg_pure (fun H' x' kn' => ed_len (d := .tuple ps) (ed_var (i := 1) rfl (Dq.upB hab h13 x')) (.inr (.inr rfl)) fun y e => by cases e) rfl) (fun d e => ⟨_, e, by omega, by omega, Int.le_refl _⟩)) ?_) (eg_pure (P := (· = .int 0)) (fun _ _ _ => ed_int) rfl) ?_)
    (ega_cons (P := (· = .int first)) (k := k) hab (eg_pure (fun _ _ _ => ed_var (i := 3) (d := .int first) rfl (.int _)) rfl) (ega_cons (P := (· = .int last)) (k := k) hab (eg_pure (fun _ _ _ => ed_var (i := 2) (d := .int last) rfl (.int _)) rfl) ega_nil))) ?_)
  · rintro d e rfl hi'
    obtain ⟨j', z, rfl, hz, hm⟩ := intB_at (ds := ps) hi' (by omega)
    exact ⟨_, j', z, rfl, rfl, hz, hm⟩
  · rintro d e hm rfl
    obtain ⟨x, cs, r, rfl, hx, hx8⟩ := pok.2.2 d hm
    exact ⟨_, 0, _, rfl, rfl, atI0 _ _, x, rfl, hx, hx8⟩
  · rintro l ⟨d1, r1, rfl, ⟨x, rfl, hx, hx8⟩, d2, r2, rfl, rfl, d3, r3, rfl, rfl, rfl⟩
    exact ⟨by rw [hsl]; show 3 ≤ 16777216; decide, .inr ⟨x, first, last, rfl, hx, hx8, f0, f1, l0, l1⟩⟩
end
end Wr

set_option Elab.async false
set_option linter.all false
set_option maxRecDepth 100000
set_option maxHeartbeats 4000000
namespace Wr
open PySem PySem.Spec PyProof.Rows L2 Evl
theorem er_map {α β : Type} (f : α → β) : ∀ (xs : List α) (j : Nat), (xs.map f).eraseIdx j = (xs.eraseIdx j).map f
  | [], j => rfl
  | x :: r, 0 => rfl
  | x :: r, j + 1 => by
    show f x :: (r.map f).eraseIdx j = f x :: (r.eraseIdx j).map f
    rw [er_map f r j]
section
variable {P : Program} {w : World} {K : PySem.W.Frag} {mg : Str → Option Value} {base : Heap} {f g g2 : Addr} {fd gd gd2 : FuncData}
theorem ok_kd (D : Def K mg "_law_kinds" s_kd ["_law_bag_here"] f fd) (D1 : Def K mg "_law_take" s_take ["_law_bag_here", "_law_many"] g gd) (B : Blt mg) :
    FnOk P w K mg base CX0 2 f fd ["_law_bag_here"] (spG K 6 (· = []) fun _ d => KindsP d) := by
  refine D.F.ok sc_kd (fun vs H Q E h => spG_len (fun ds e => by rw [e]; rfl) h) (fun cdv A outer s H vs Q E hr h => ?_)
  obtain ⟨b, a, k, ws, ds, rfl, hab, kn, bg, hd, rfl, q⟩ := h
  cases hd
  have G1 := ok_take (P := P) (w := w) (base := base) D1
  refine ⟨_, pss_cons (ps_set (i := 1) sc_kd.nd rfl (Or.inl rfl) (pe_lst (pa_cons pe_str (pa_cons pe_str (pa_cons pe_str (pa_cons pe_str (pa_cons pe_str pa_nil)))))))
    (pss_cons (ps_set (i := 2) sc_kd.nd rfl (Or.inl rfl) (pe_lst pa_nil))
    (pss_cons (ps_for PassesOwn.never rfl (pi_range1 rfl B.range (pa_cons (pe_op op_add pe_int (pe_cd D1 G1 hr (pa_cons (pv 0) (pa_cons pe_int pa_nil)))) pa_nil)) (pg_name (i := 3) sc_kd.nd rfl (Or.inl rfl))
      (pss_one (ps_expr (pe_bm PySem.F.plainAttrs_list PySem.F.slot_list_append PySem.F.type_list_append mt_append (pv 2) (pa_cons (pe_bm PySem.F.plainAttrs_list PySem.F.slot_list_pop PySem.F.type_list_pop mt_popAt (pv 1) (pa_cons (pe_cd D1 G1 hr (pa_cons (pv 0) (pa_cons (pe_callB call_lenD1 rfl B.len bb_len (pa_cons (pv 1) pa_nil)) pa_nil))) pa_nil)) pa_nil)))))
    (pss_one (ps_ret (pe_callTy call_tupF rfl B.tuple bt_tuple (pa_cons (pv 2) pa_nil)))))), ?_⟩
  have hsl : sizeLine = 16777216 := sizeLine_eq
  refine g_lst (K := K) (b := b) (ds := kindW.map .str) kn (ea_cons ed_str (ea_cons ed_str (ea_cons ed_str (ea_cons ed_str (ea_cons ed_str ea_nil))))) (by decide) fun L vl H0 hL x0 hL0 dl => ?_
  have evl := dps_strs dl
  subst evl
  refine g_lst (K := K) (b := b) (ds := []) (kn.up x0) ea_nil (by decide) fun F vf H1 hF x1 hF1 df => ?_
  cases df
  have hL1 := x1 _ _ hL0
  have hLF : L ≠ F := fun e => by rw [e, hF] at hL0; cases hL0
  have hFH : H F = none := by
    cases z : H F with
    | none => rfl
    | some o => rw [x0 _ _ z] at hF; cases hF
  have xx := x0.trans x1
  have hFa : F ≠ a := fun e => bg.there (e ▸ hFH)
  have hLa : L ≠ a := fun e => bg.there (e ▸ hL)
  have bg1 : Bag a (k + 5 + 1) H1 := bg.ex xx
  show tSeq _ _ _ [some (.ref a), some (.ref L), some (.ref F), none] H1
  refine (eg_I0 (K := K) (b := b) (g := fun i j => i + j) (n := k + 5 + 1) (m := k + 5) (P := fun d => ∃ N : Int, d = .int N ∧ 1 ≤ N ∧ N ≤ 5) hab (eg_pure (P := (· = .int 1)) (fun _ _ _ => ed_int) rfl) (eg_take (n := k + 5) (σ := [some (V.ref a), some (.ref L), some (.ref F), none]) hab rfl (by decide) (by decide)) (fun d e hd ⟨r, er, r0, r1⟩ => ⟨1, r, hd, er, 1 + r, rfl, by omega, by omega⟩)) H1 (ExB.refl a H1) (kn.up xx) bg1 _ fun vN dN H2 x2 b2 hvN ⟨N, eN, N1, N5⟩ => ?_
  subst eN
  have eN := dq_int hvN
  subst eN
  have kn2 : Kn b H2 := x2.kn (kn.up xx) b2
  refine ⟨N, rfl, by omega, by omega, ?_⟩
  refine for_range (Pv := fun i σ' H' => (∃ y3, σ' = [some (.ref a), some (.ref L), some (.ref F), y3]) ∧ (∀ c o, c ≠ a → c ≠ L → c ≠ F → H2 c = some o → H' c = some o) ∧ Bag a (k + (5 - i)) H' ∧ ∃ ls fs : List Str, H' L = some (.lst (ls.map V.str)) ∧ H' F = some (.lst (fs.map V.str)) ∧ ls.length = 5 - i ∧ fs.length = i ∧ (∀ x ∈ ls, x ∈ kindW) ∧ ∀ x ∈ fs, x ∈ kindW) ?_ ?_ ?_
  · exact ⟨⟨none, rfl⟩, fun c o _ _ _ h => h, b2, kindW, [], x2 _ _ hLa hL1, x2 _ _ hFa hF1, rfl, rfl, fun x h => h, fun x h => nomatch h⟩
  · intro i σ' H3 hi ⟨⟨y3, eσ⟩, hg, b3, ls, fs, hL3, hF3, ll, lf, inL, inF⟩
    subst eσ
    have hi5 : i < 5 := by omega
    have kn3 : Kn b H3 := fun c hc => by
      by_cases e : c = a
      · subst e; exact b3.there
      · have cL : c ≠ L := fun e => kn c hc (e ▸ hL)
        have cF : c ≠ F := fun e => kn c hc (e ▸ hFH)
        have h1 := kn2 c hc
        cases z : H2 c with
        | none => exact absurd z h1
        | some o => rw [hg c o e cL cF z]; intro z'; cases z'
    have bk : k + (5 - i) = (k + (5 - (i + 1))) + 1 := by omega
    generalize hkk : k + (5 - (i + 1)) = kk at bk
    rw [bk] at b3
    show tDrop _ _ [some (.ref a), some (.ref L), some (.ref F), some (.int (0 + (i : Int)))] H3
    refine ⟨.ref F, rfl, .inl ⟨rfl, _, .inl (.inl hF3)⟩, .ref L, rfl, .inl ⟨rfl, _, .inl (.inl hL3)⟩, ?_⟩
    have egt := eg_takeE (K := K) (b := b) (a := a) (E := E0) (u := (ls.length : Nat)) (n := kk + 1) (m := kk) (i := 0) (H := H3) (σ := [some (V.ref a), some (.ref L), some (.ref F), some (.int (0 + (i : Int)))]) (te := tCB (rLen K) (tCons (tVar 1) tNil)) (P1 := (· = .int (ls.length : Nat))) hab rfl (eg_pure (fun H' x' kn' => (ed_lenL (j := 1) rfl (x' _ _ hLa hL3)).to (by rw [List.length_map])) rfl) (fun d e => ⟨_, e, by omega, by omega, Int.le_refl _⟩)
    refine egt H3 (ExB.refl a H3) kn3 b3 _ fun vr dr H4 x4 b4 hvr ⟨r, er, r0, r1⟩ => ?_
    subst er
    have er := dq_int hvr
    subst er
    have hL4 := x4 _ _ hLa hL3
    have hF4 := x4 _ _ hFa hF3
    have hr' : r.toNat < ls.length := by omega
    have hat : atI (ls.map V.str) r = some (.str ls[r.toNat]) := by
      have := atI_nat (xs := ls.map V.str) (j := r.toNat) (v := .str ls[r.toNat]) (by rw [List.getElem?_map, List.getElem?_eq_getElem hr']; rfl)
      rw [Int.toNat_of_nonneg r0] at this
      exact this
    obtain ⟨j, hj1, hj2, hj3, _⟩ := atI_get hat
    have hjl : j < ls.length := by rw [List.length_map] at hj3; exact hj3
    have ej : V.str ls[r.toNat] = .str ls[j] := by
      rw [List.getElem?_map, List.getElem?_eq_getElem hjl] at hj2
      exact (Option.some.inj hj2).symm
    refine ⟨L, ls.map V.str, r, j, .str ls[r.toNat], rfl, rfl, hL4, by omega, by omega, hj1, hj2, F, fs.map V.str, .str ls[r.toNat], rfl, rfl, ?_, ?_, ?_⟩
    · rw [upd_ne (Ne.symm hLF)]
      exact hF4
    · rw [List.length_map, hsl]
      omega
    · refine ⟨⟨_, rfl⟩, fun c o ca cL cF z => ?_, ?_, ls.eraseIdx j, fs ++ [ls[r.toNat]], ?_, ?_, ?_, ?_, fun x hx => ?_, fun x hx => ?_⟩
      · rw [upd_ne cF, upd_ne cL]
        exact x4 _ _ ca (hg c o ca cL cF z)
      · obtain ⟨g', x', c', h1, r'⟩ := b4
        exact ⟨g', x', c', by rw [upd_ne (Ne.symm hFa), upd_ne (Ne.symm hLa)]; exact h1, r'⟩
      · rw [upd_ne hLF, upd_same, er_map]
      · rw [upd_same, List.map_append]
        rfl
      · rw [List.length_eraseIdx, if_pos hjl]
        omega
      · rw [List.length_append, lf]
        rfl
      · exact inL x (List.mem_of_mem_eraseIdx hx)
      · rcases List.mem_append.mp hx with hx | hx
        · exact inF x hx
        · rw [List.mem_singleton.mp hx]
          exact inL _ (List.getElem_mem hr')
  · intro σ' H3 ⟨⟨y3, eσ⟩, hg, b3, ls, fs, hL3, hF3, ll, lf, inL, inF⟩
    subst eσ
    refine ⟨.ref F, rfl, F, _, rfl, .inl (.inl hF3), fun l o hl' ho => ?_⟩
    have kn3 : Kn b H3 := fun c hc => by
      by_cases e : c = a
      · subst e; exact b3.there
      · have cL : c ≠ L := fun e => kn c hc (e ▸ hL)
        have cF : c ≠ F := fun e => kn c hc (e ▸ hFH)
        have h1 := kn2 c hc
        cases z : H2 c with
        | none => exact absurd z h1
        | some o => rw [hg c o e cL cF z]; intro z'; cases z'
    refine q _ (.tuple (fs.map .str)) _ (fun c o' ca z => ?_) ((b3.ex (Ex.new hl')).le (by omega)) (dq_newT kn3 hl' ho (strs_dps fs)) ⟨fs, rfl, by omega, by omega, inF⟩
    have cF : c ≠ F := fun e => by rw [e, hFH] at z; cases z
    have cL : c ≠ L := fun e => by rw [e, hL] at z; cases z
    exact Ex.new hl' _ _ (hg c o' ca cL cF (x2 _ _ ca (xx _ _ z)))
end
end Wr

set_option Elab.async false
set_option linter.all false
set_option maxRecDepth 100000
set_option maxHeartbeats 4000000
namespace Wr
open PySem PySem.Spec PyProof.Rows L2 Evl
abbrev s_ot : Stmt := topS 38
abbrev NOt : List Str := ["_law_bag_here", "_law_hook", "_law_way", "_law_name", "_law_kinds_here", "_law_where_here", "_law_at", "_law_kind", "_law_first"]
theorem sc_ot : FnScope NOt ["_law_bag_here", "_law_hook"] (defScope s_ot) := ⟨rfl, rfl, rfl, by decide +kernel, rfl, by decide +kernel, by decide +kernel⟩
def rListOf (K : PySem.W.Frag) : List V → Hp → VK → Prop := fun xs H Q => ∃ p ys, xs = [.ref p] ∧ (SqL K H p ys ∨ SqT K H p ys) ∧ ∀ l, H l = none → Q (.ref l) (upd H l (.lst ys))
theorem call_listF {X : Cx} : CallR X (.type "list") (rListOf X.K) := call_list_of
/-! ### how deep things are -/
theorem ok_tup {n : Nat} {ds : List PyData} (hl : ds.length ≤ 1000) (h : ∀ d ∈ ds, okD n d = true) : okD (n + 1) (.tuple ds) = true := by
  show (decide (ds.length ≤ 1000) && ds.all (okD n)) = true
  rw [decide_eq_true hl, List.all_eq_true.mpr h]
  rfl
theorem ok_lst {n : Nat} {ds : List PyData} (hl : ds.length ≤ 1000) (h : ∀ d ∈ ds, okD n d = true) : okD (n + 1) (.list ds) = true := by
  show (decide (ds.length ≤ 1000) && ds.all (okD n)) = true
  rw [decide_eq_true hl, List.all_eq_true.mpr h]
  rfl
theorem cutD_mem {ds : List PyData} {lo hi : Option Int} {d : PyData} (h : d ∈ cutD ds lo hi) : d ∈ ds := List.mem_of_mem_drop (List.mem_of_mem_take h)
theorem cutD_len (ds : List PyData) (lo hi : Option Int) : (cutD ds lo hi).length ≤ ds.length := by
  unfold cutD
  rw [List.length_take, List.length_drop]
  omega
theorem ok_three {n : Nat} {x y z : PyData} (h1 : okD n x = true) (h2 : okD n y = true) (h3 : okD n z = true) : okD (n + 1) (.tuple [x, y, z]) = true := ok_tup (by show 3 ≤ 1000; decide) fun d hd => by
  rcases List.mem_cons.mp hd with rfl | hd
  · exact h1
  rcases List.mem_cons.mp hd with rfl | hd
  · exact h2
  rw [List.mem_singleton.mp hd]
  exact h3
theorem ok_int {n : Nat} {i : Int} (h : i.natAbs < 1000) : okD n (.int i) = true := by
  have : (1000 : Nat) < 10 ^ 45 := by decide
  cases n <;> exact decide_eq_true (by omega)
theorem ok_text {n : Nat} {x : Str} (h1 : PyData.strOk x = true) (h2 : x.length ≤ 8) : okD n (.str x) = true := by
  have : (PyData.strOk x && decide (x.length ≤ 1000)) = true := by
    rw [h1, decide_eq_true (by omega)]
    rfl
  cases n <;> exact this
theorem kindW_short {x : Str} (h : x ∈ kindW) : PyData.strOk x = true ∧ x.length ≤ 8 := by
  have q : (kindW.all fun x => PyData.strOk x && decide (x.length ≤ 8)) = true := by decide +kernel
  have := List.all_eq_true.mp q x h
  rw [Bool.and_eq_true] at this
  exact ⟨this.1, of_decide_eq_true this.2⟩
theorem KindsP.ok {d : PyData} (h : KindsP d) : ∃ ks, d = .tuple ks ∧ 1 ≤ ks.length ∧ ks.length ≤ 5 ∧ ∀ z ∈ ks, okD 0 z = true := by
  obtain ⟨fs, rfl, h1, h5, hk⟩ := h
  refine ⟨fs.map .str, rfl, by rw [List.length_map]; exact h1, by rw [List.length_map]; exact h5, fun z hz => ?_⟩
  obtain ⟨x, hx, rfl⟩ := List.mem_map.mp hz
  obtain ⟨k1, k2⟩ := kindW_short (hk x hx)
  exact ok_text k1 k2
theorem WhereP.ok {d : PyData} (h : WhereP d) : okD 1 d = true := by
  rcases h with rfl | ⟨x, i, j, rfl, hx, hx8, i0, i1, j0, j1⟩
  · rfl
  · exact ok_three (ok_text hx hx8) (ok_int (by omega)) (ok_int (by omega))
def HookP (d : PyData) : Prop := ∃ (x : Str) (kd wd : PyData), d = .tuple [.str x, kd, wd] ∧ PyData.strOk x = true ∧ x.length ≤ 8 ∧ KindsP kd ∧ WhereP wd
section
variable {K : PySem.W.Frag} {b : List Addr} {a : Addr} {n m k : Nat} {σ : L2.St} {H H' : Hp} {ta tb te : TE} {t : TA} {ts : TS} {P : PyData → Prop} {d x y z : PyData} {ds es : List PyData}
theorem ed_listOf (kn : Kn b H) (ha : ED K b ta σ H (.tuple ds)) : ED K b (tCB (rListOf K) (tCons ta tNil)) σ H (.list ds) := fun H1 x1 Q q =>
  ha H1 x1 _ fun v H2 x2 hv => by
    cases hv with
    | tup g1 gn g2 =>
      refine ⟨_, _, rfl, .inr (ex_t hid_le g1), fun l hl => ?_⟩
      have kn2 := kn.up (x1.trans x2)
      exact q _ _ (x2.trans (Ex.new hl)) (.lst (.inl (.inl (hid_new (kn2.new hl)))) (DqAll.up g2 (Ex.new hl)))
theorem gs_unpack3 {i j l : Nat} (h : ∀ H1, ExB a H H1 → Kn b H1 → ED K b te σ H1 (.tuple [x, y, z])) (kk : ∀ v1 v2 v3 H', ExB a H H' → Dq K b H' v1 x → Dq K b H' v2 y → Dq K b H' v3 z → GS K b a n m ts (((σ.set i (some v1)).set j (some v2)).set l (some v3)) H' P) :
    GS K b a n m (tSeq (tAsg te (gTup K 3 (gCons (gName i) (gCons (gName j) (gCons (gName l) gNil))))) ts) σ H P := fun H1 x1 kn bg D q =>
  h H1 x1 kn H1 (Ex.refl H1) _ fun v H2 x2 hv => by
    cases hv with
    | tup h1 _ h2 =>
      cases h2 with
      | cons p1 p2 =>
        cases p2 with
        | cons p3 p4 =>
          cases p4 with
          | cons p5 p6 =>
            cases p6
            exact ⟨_, _, rfl, ex_t hid_le h1, rfl, _, _, rfl, _, _, rfl, _, _, rfl, rfl, kk _ _ _ H2 (x1.trans (exb x2)) p1 p3 p5 H2 (ExB.refl a H2) (kn.up x2) (bg.ex x2) D fun v' d' H3 x3 b3 hv' p' => q v' d' H3 ((exb x2).trans x3) b3 hv' p'⟩
/-- an item of a written list, drawn -/
theorem eg_one {i : Nat} {E : XK} {u : Int} (ha : a ∈ b) (hb : σ[i]? = some (some (.ref a))) (h : ∀ H1, ExB a H H1 → Kn b H1 → ED K b te σ H1 (.list ds)) (hu : u = (ds.length : Nat)) (h0 : 0 < u) (h1 : u < 1000) (hp : ∀ z ∈ ds, P z) : EG K b a (n + 1) n (tOp (rIxL K) te (tCall (spTake K) [] E (tCons (tVar i) (tCons (tC (.int u)) tNil)))) σ H P :=
  eg_ixL ha (eg_pure (P := (· = .list ds)) h rfl) (eg_take ha hb h0 (by omega)) fun d e hd he => by
    subst hd
    obtain ⟨j', z, rfl, hz, hm⟩ := intB_at (ds := ds) he (by omega)
    exact ⟨_, j', z, rfl, rfl, hz, hp z hm⟩
end
end Wr

set_option Elab.async false
set_option linter.all false
set_option maxRecDepth 100000
set_option maxHeartbeats 4000000
namespace Wr
open PySem PySem.Spec PyProof.Rows L2 Evl
section
variable {P : Program} {w : World} {K : PySem.W.Frag} {mg : Str → Option Value} {base : Heap} {f g g2 : Addr} {fd gd gd2 : FuncData}
theorem ok_ot (D : Def K mg "_law_otherwise" s_ot ["_law_bag_here", "_law_hook"] f fd) (D1 : Def K mg "_law_take" s_take ["_law_bag_here", "_law_many"] g gd) (D2 : Def K mg "_law_odd" s_odd ["_law_bag_here"] g2 gd2) (B : Blt mg) :
    FnOk P w K mg base CX0 3 f fd ["_law_bag_here", "_law_hook"] (spG K 4 (fun ds => ∃ d, ds = [d] ∧ HookP d) fun _ d => okD 8 d = true) := by
  refine D.F.ok sc_ot (fun vs H Q E h => spG_len (fun ds ⟨d, e, _⟩ => by rw [e]; rfl) h) (fun cdv A outer s H vs Q E hr h => ?_)
  obtain ⟨b, a, k, ws, ds, rfl, hab, kn, bg, hd, ⟨hk, rfl, x, kd, wd, rfl, hx, hx8, hkd, hwd⟩, q⟩ := h
  obtain ⟨vh, d', rfl, ed, h1⟩ := one_of hd rfl
  cases ed
  have G1 := ok_take (P := P) (w := w) (base := base) D1
  have G2 := ok_odd (P := P) (w := w) (base := base) D2 D1
  have r1 : Room 1 _ := hr.mono (by decide)
  refine ⟨_, pss_cons (ps_set (i := 2) sc_ot.nd rfl (Or.inl rfl) (pe_cd D1 G1 r1 (pa_cons (pv 0) (pa_cons pe_int pa_nil))))
    (pss_cons (ps_asg (pv 1) (pg_tup rfl (pgs_cons (pg_name (i := 3) sc_ot.nd rfl (Or.inl rfl)) (pgs_cons (pg_name (i := 4) sc_ot.nd rfl (Or.inl rfl)) (pgs_cons (pg_name (i := 5) sc_ot.nd rfl (Or.inl rfl)) pgs_nil)))))
    (pss_cons (ps_if (pt_cmpR (op_eqD (hu64 hr)) (pv 2) pe_int (nomark _)) (pss_one (ps_ret (pe_tupF (pa_cons (pe_cd D2 G2 hr (pa_cons (pv 0) pa_nil)) (pa_cons (pv 4) (pa_cons (pv 5) pa_nil)))))) pss_nil)
    (pss_cons (ps_if (pt_cmpR (op_eqD (hu64 hr)) (pv 2) pe_int (nomark _)) (pss_one (ps_ret (pe_tupF (pa_cons (pv 3) (pa_cons (pe_cd D2 G2 hr (pa_cons (pv 0) pa_nil)) (pa_cons (pv 5) pa_nil)))))) pss_nil)
    (pss_cons (ps_if (pt_cmpR (op_eqD (hu64 hr)) (pv 2) pe_int (nomark _)) (pss_one (ps_ret (pe_tupF (pa_cons (pv 3) (pa_cons (pv 4) (pa_cons (pe_cd D2 G2 hr (pa_cons (pv 0) pa_nil)) pa_nil)))))) pss_nil)
    (pss_cons (ps_if (pt_cmpR (op_eqD (hu64 hr)) (pv 2) pe_int (nomark _))
      (pss_cons (ps_set (i := 6) sc_ot.nd rfl (Or.inl rfl) (pe_cd D1 G1 r1 (pa_cons (pv 0) (pa_cons (pe_op op_add (pe_callB call_lenD1 rfl B.len bb_len (pa_cons (pv 4) pa_nil)) pe_int) pa_nil))))
      (pss_cons (ps_set (i := 7) sc_ot.nd rfl (Or.inl rfl) (pe_ix ix_list (pe_lst (pa_cons pe_str (pa_cons pe_str (pa_cons pe_str (pa_cons pe_str (pa_cons pe_str (pa_cons pe_str (pa_cons pe_non (pa_cons pe_int pa_nil))))))))) (pe_cd D1 G1 r1 (pa_cons (pv 0) (pa_cons pe_int pa_nil))) (fun _ _ => rfl)))
      (pss_one (ps_ret (pe_tupF (pa_cons (pv 3) (pa_cons (pe_op op_catF (pe_op op_catF (pe_slice sl_tupF (pv 4) po_none (po_some (pv 6))) (pe_tupF (pa_cons (pv 7) pa_nil))) (pe_slice sl_tupF (pv 4) (po_some (pv 6)) po_none)) (pa_cons (pv 5) pa_nil)))))))) pss_nil)
    (pss_cons (ps_if (pt_cmpR (op_eqD (hu64 hr)) (pv 2) pe_int (nomark _)) (pss_one (ps_ret (pe_ix ix_list (pe_lst (pa_cons (pe_callTy call_listF rfl B.list bt_list (pa_cons (pv 1) pa_nil)) (pa_cons (pe_slice sl_tupF (pv 1) po_none (po_some pe_int)) (pa_cons (pe_op op_catF (pv 1) (pe_tupF (pa_cons pe_non pa_nil))) (pa_cons (pe_tupF (pa_cons (pv 3) (pa_cons (pe_callTy call_listF rfl B.list bt_list (pa_cons (pv 4) pa_nil)) (pa_cons (pv 5) pa_nil)))) pa_nil))))) (pe_cd D1 G1 r1 (pa_cons (pv 0) (pa_cons pe_int pa_nil))) (fun _ _ => rfl)))) pss_nil)
    (pss_cons (ps_if (pt_cmp (pc_isN (pv 5)))
      (pss_cons (ps_set (i := 8) sc_ot.nd rfl (Or.inl rfl) (pe_ix ix_list (pe_lst (pa_cons pe_int (pa_cons pe_int (pa_cons (pe_un un_neg pe_int) (pa_cons pe_bl (pa_cons pe_int (pa_cons pe_int pa_nil))))))) (pe_cd D1 G1 r1 (pa_cons (pv 0) (pa_cons pe_int pa_nil))) (fun _ _ => rfl)))
      (pss_one (ps_ret (pe_tupF (pa_cons (pv 3) (pa_cons (pv 4) (pa_cons (pe_tupF (pa_cons (pv 3) (pa_cons (pv 8) (pa_cons (pe_ix ix_list (pe_lst (pa_cons pe_int (pa_cons pe_int (pa_cons pe_int (pa_cons pe_int (pa_cons pe_non (pa_cons pe_int pa_nil))))))) (pe_cd D1 G1 r1 (pa_cons (pv 0) (pa_cons pe_int pa_nil))) (fun _ _ => rfl)) pa_nil)))) pa_nil))))))) pss_nil)
    (pss_cons (ps_set (i := 6) sc_ot.nd rfl (Or.inl rfl) (pe_cd D1 G1 r1 (pa_cons (pv 0) (pa_cons pe_int pa_nil))))
    (pss_one (ps_ret (pe_tupF (pa_cons (pv 3) (pa_cons (pv 4) (pa_cons (pe_ix ix_list (pe_lst (pa_cons (pe_op op_catF (pe_op op_catF (pe_slice sl_tupF (pv 5) po_none (po_some (pv 6))) (pe_tupF (pa_cons (pe_cd D2 G2 hr (pa_cons (pv 0) pa_nil)) pa_nil))) (pe_slice sl_tupF (pv 5) (po_some (pe_op op_add (pv 6) pe_int)) po_none)) (pa_cons (pe_slice sl_tupF (pv 5) po_none (po_some pe_int)) (pa_cons (pe_callTy call_listF rfl B.list bt_list (pa_cons (pv 5) pa_nil)) pa_nil)))) (pe_cd D1 G1 r1 (pa_cons (pv 0) (pa_cons pe_int pa_nil))) (fun _ _ => rfl)) pa_nil)))))))))))))), ?_⟩
  have hsl : sizeLine = 16777216 := sizeLine_eq
  obtain ⟨ks, ekd, k1, k5, okk⟩ := hkd.ok
  subst ekd
  have okx : ∀ {n}, okD n (.str x) = true := fun {n} => ok_text hx hx8
  have okK : okD 1 (.tuple ks) = true := ok_tup (by omega) okk
  have okW := hwd.ok
  refine GS.fin (K := K) (b := b) (a := a) (n := k + 1 + 1 + 1 + 1) (m := k) (P := fun d => okD 8 d = true) (gs_set (k := k + 1 + 1 + 1) (eg_take hab rfl (by decide) (by decide)) fun vw dw H0 x0 hvw ⟨way, ew, w0, w8⟩ => ?_) kn bg fun v d H' x bg' hv p => q v d H' x bg' hv p
  subst ew
  have ew := dq_int hvw
  subst ew
  refine gs_unpack3 (x := .str x) (y := .tuple ks) (z := wd) (fun H1 x1 _ => ed_var (i := 1) rfl (Dq.upB hab h1 (x0.trans x1))) fun v3 v4 v5 H1 x1 p3 p4 p5 => ?_
  have h11 : Dq K b H1 vh (.tuple [.str x, .tuple ks, wd]) := Dq.upB hab h1 (x0.trans x1)
  show GS K b a (k + 1 + 1 + 1) k _ [some (.ref a), some vh, some (.int way), some v3, some v4, some v5, none, none, none] H1 _
  have tw : ∀ (c : Int) (H' : Hp), EvT (tTest (tOp (rEqD K) (tVar 2) (tC (.int c)))) [some (V.ref a), some vh, some (.int way), some v3, some v4, some v5, none, none, none] H' (way == c) := fun c H' => by
    have := et_t (ed_eq (K := K) (b := b) (ed_var (σ := [some (V.ref a), some vh, some (.int way), some v3, some v4, some v5, none, none, none]) (H := H') (i := 2) (d := .int way) rfl (.int _)) (ed_int (i := c)) (sh_int _) (sh_int _))
    rw [eqv_int] at this
    exact this
  have odd : ∀ {n : Nat}, EG K b a (n + 1) n (tCall (spG K 1 (· = []) fun _ d => okD 3 d = true) [] E0 (tCons (tVar 0) tNil)) [some (V.ref a), some vh, some (.int way), some v3, some v4, some v5, none, none, none] H1 (fun d => okD 3 d = true) := fun {n} => eg_call (c := 1) (S := (· = [])) hab rfl ega_nil (fun _ e => e) fun _ _ _ z => z
  refine gs_if (fun H' _ _ => tw 0 H') (fun _ => gs_ret (EG.le (m := k + 1 + 1) (eg_tup (ega_cons hab odd (ega_cons (P := (· = .tuple ks)) hab (eg_var (i := 4) rfl hab p4 rfl) (ega_cons (P := (· = wd)) hab (eg_var (i := 5) rfl hab p5 rfl) ega_nil))) ?_) (by omega))) fun _ => ?_
  · rintro l ⟨d1, r1, rfl, h3, d2, r2, rfl, rfl, d3, r3, rfl, rfl, rfl⟩
    exact ⟨by rw [hsl]; show 3 ≤ 16777216; decide, ok_three (n := 7) (ok_up h3 (by omega)) (ok_up okK (by omega)) (ok_up okW (by omega))⟩
  refine gs_if (fun H' _ _ => tw 1 H') (fun _ => gs_ret (EG.le (m := k + 1 + 1) (eg_tup (ega_cons (P := (· = .str x)) hab (eg_var (i := 3) rfl hab p3 rfl) (ega_cons hab odd (ega_cons (P := (· = wd)) hab (eg_var (i := 5) rfl hab p5 rfl) ega_nil))) ?_) (by omega))) fun _ => ?_
  · rintro l ⟨d1, r1, rfl, rfl, d2, r2, rfl, h3, d3, r3, rfl, rfl, rfl⟩
    exact ⟨by rw [hsl]; show 3 ≤ 16777216; decide, ok_three (n := 7) okx (ok_up h3 (by omega)) (ok_up okW (by omega))⟩
  refine gs_if (fun H' _ _ => tw 2 H') (fun _ => gs_ret (EG.le (m := k + 1 + 1) (eg_tup (ega_cons (P := (· = .str x)) hab (eg_var (i := 3) rfl hab p3 rfl) (ega_cons (P := (· = .tuple ks)) hab (eg_var (i := 4) rfl hab p4 rfl) (ega_cons hab odd ega_nil))) ?_) (by omega))) fun _ => ?_
  · rintro l ⟨d1, r1, rfl, rfl, d2, r2, rfl, rfl, d3, r3, rfl, h3, rfl⟩
    exact ⟨by rw [hsl]; show 3 ≤ 16777216; decide, ok_three (n := 7) okx (ok_up okK (by omega)) (ok_up h3 (by omega))⟩
  refine gs_if (fun H' _ _ => tw 3 H') (fun _ => ?_) fun _ => ?_
  · refine gs_set (k := k + 1 + 1) (P1 := IntB ((ks.length : Nat) + 1)) (eg_takeE (n := k + 1 + 1 + 1) (m := k + 1 + 1) (P1 := (· = .int ((ks.length : Nat) + 1))) hab rfl (eg_pure (fun H' x' kn' => ed_add (ed_len (d := .tuple ks) (ed_var (i := 4) rfl (Dq.upB hab p4 x')) (.inr (.inr rfl)) fun y e => by cases e) ed_int) rfl) (fun d e => ⟨_, e, by omega, by omega, Int.le_refl _⟩)) fun v6 d6 H2 x2 hv6 ⟨at_, e6, a0, a1⟩ => ?_
    subst e6
    have e6 := dq_int hv6
    subst e6
    refine gs_set (k := k + 1) (P1 := fun d => okD 0 d = true) (eg_one (n := k + 1) (ds := [.str "call", .str "row", .str "back", .str "fault", .str "caught", .str "x", .none, .int 1]) hab rfl (fun H' x' kn' => ed_lst kn' (ea_cons ed_str (ea_cons ed_str (ea_cons ed_str (ea_cons ed_str (ea_cons ed_str (ea_cons ed_str (ea_cons ed_non (ea_cons ed_int ea_nil)))))))) (by decide)) rfl (by decide) (by decide) (fun z hz => ?_)) fun v7 d7 H3 x3 hv7 ok7 => ?_
    · have q' : ([PyData.str "call", .str "row", .str "back", .str "fault", .str "caught", .str "x", .none, .int 1].all (okD 0)) = true := by decide +kernel
      exact List.all_eq_true.mp q' z hz
    have p43 := Dq.upB hab p4 (x2.trans x3)
    have p33 := Dq.upB hab p3 (x2.trans x3)
    have p53 := Dq.upB hab p5 (x2.trans x3)
    refine gs_ret (EG.le (m := k + 1) (eg_pure (d := .tuple [.str x, .tuple (cutD ks none (some at_) ++ [d7] ++ cutD ks (some at_) none), wd]) (fun H' x' kn' => ed_tup kn' (ea_cons (ed_var (i := 3) rfl (Dq.upB hab p33 x')) (ea_cons (ed_catT kn' (ed_catT kn' (ed_slT kn' (ed_var (i := 4) rfl (Dq.upB hab p43 x')) eo_none (eo_some (K := K) (b := b) (ed_var (i := 6) (d := .int at_) rfl (.int _)))) (ed_tup kn' (ea_cons (ed_var (i := 7) rfl (Dq.upB hab hv7 x')) ea_nil) ?_) ?_) (ed_slT kn' (ed_var (i := 4) rfl (Dq.upB hab p43 x')) (eo_some (K := K) (b := b) (ed_var (i := 6) (d := .int at_) rfl (.int _))) eo_none) ?_) (ea_cons (ed_var (i := 5) rfl (Dq.upB hab p53 x')) ea_nil))) ?_) ?_) (by omega))
    · rw [hsl]; show 1 ≤ 16777216; decide
    · have := cutD_len ks none (some at_)
      rw [List.length_singleton, hsl]
      omega
    · have c1 := cutD_len ks none (some at_)
      have c2 := cutD_len ks (some at_) none
      rw [List.length_append, List.length_singleton, hsl]
      omega
    · rw [hsl]; show 3 ≤ 16777216; decide
    · have c1 := cutD_len ks none (some at_)
      have c2 := cutD_len ks (some at_) none
      refine ok_three (n := 7) okx (ok_up (n := 1) (ok_tup (by rw [List.length_append, List.length_append, List.length_singleton]; omega) fun z hz => ?_) (by omega)) (ok_up okW (by omega))
      rcases List.mem_append.mp hz with hz | hz
      · rcases List.mem_append.mp hz with hz | hz
        · exact okk z (cutD_mem hz)
        · rw [List.mem_singleton.mp hz]
          exact ok7
      · exact okk z (cutD_mem hz)
  refine gs_if (fun H' _ _ => tw 4 H') (fun _ => gs_ret (EG.le (m := k + 1 + 1) (eg_one (n := k + 1 + 1) (ds := [.list [.str x, .tuple ks, wd], .tuple [.str x, .tuple ks], .tuple ([.str x, .tuple ks, wd] ++ [.none]), .tuple [.str x, .list ks, wd]]) hab rfl (fun H' x' kn' => ?_) rfl (by decide) (by decide) fun z hz => ?_) (by omega))) fun _ => ?_
  · have hh := ed_var (K := K) (b := b) (σ := [some (V.ref a), some vh, some (.int way), some v3, some v4, some v5, none, none, none]) (i := 1) rfl (Dq.upB hab h11 x')
    exact ed_lst kn' (ea_cons (ed_listOf kn' hh) (ea_cons (ed_slT kn' hh eo_none (eo_some (K := K) (b := b) (ed_int (i := 2)))) (ea_cons (ed_catT kn' hh (ed_tup (ds := [.none]) kn' (ea_cons ed_non ea_nil) (by decide)) (by rw [hsl]; show 4 ≤ 16777216; decide)) (ea_cons (ed_tup kn' (ea_cons (ed_var (i := 3) rfl (Dq.upB hab p3 x')) (ea_cons (ed_listOf kn' (ed_var (i := 4) rfl (Dq.upB hab p4 x'))) (ea_cons (ed_var (i := 5) rfl (Dq.upB hab p5 x')) ea_nil))) (by rw [hsl]; show 3 ≤ 16777216; decide)) ea_nil)))) (by rw [hsl]; show 4 ≤ 16777216; decide)
  · have three : ∀ z ∈ [PyData.str x, .tuple ks, wd], okD 7 z = true := fun z hz => by
      rcases List.mem_cons.mp hz with rfl | hz
      · exact okx
      rcases List.mem_cons.mp hz with rfl | hz
      · exact ok_up okK (by omega)
      rw [List.mem_singleton.mp hz]
      exact ok_up okW (by omega)
    rcases List.mem_cons.mp hz with rfl | hz
    · exact ok_lst (by show 3 ≤ 1000; decide) three
    rcases List.mem_cons.mp hz with rfl | hz
    · exact ok_tup (by show 2 ≤ 1000; decide) fun z hz => three z (by
        rcases List.mem_cons.mp hz with rfl | hz
        · exact List.mem_cons_self
        rw [List.mem_singleton.mp hz]
        exact List.mem_cons_of_mem _ List.mem_cons_self)
    rcases List.mem_cons.mp hz with rfl | hz
    · refine ok_tup (by show 4 ≤ 1000; decide) fun z hz => ?_
      rcases List.mem_append.mp hz with hz | hz
      · exact three z hz
      rw [List.mem_singleton.mp hz]
      rfl
    rw [List.mem_singleton.mp hz]
    exact ok_three (n := 7) okx (ok_up (ok_lst (n := 0) (by omega) okk) (by omega)) (ok_up okW (by omega))
  refine gs_if (fun H' x' _ => et_b (ed_isN (K := K) (b := b) (ed_var (i := 5) rfl (Dq.upB hab p5 x')))) (fun _ => ?_) fun hN => ?_
  · refine gs_set (k := k + 1 + 1) (P1 := fun d => okD 0 d = true) (eg_one (n := k + 1 + 1) (ds := [.int 0, .int 5, .int (-1), .bool true, .int 59, .int 60]) hab rfl (fun H' x' kn' => ed_lst kn' (ea_cons ed_int (ea_cons ed_int (ea_cons (ed_neg ed_int) (ea_cons ed_bl (ea_cons ed_int (ea_cons ed_int ea_nil)))))) (by decide)) rfl (by decide) (by decide) (fun z hz => ?_)) fun v8 d8 H2 x2 hv8 ok8 => ?_
    · have q' : ([PyData.int 0, .int 5, .int (-1), .bool true, .int 59, .int 60].all (okD 0)) = true := by decide +kernel
      exact List.all_eq_true.mp q' z hz
    have p42 := Dq.upB hab p4 x2
    have p32 := Dq.upB hab p3 x2
    refine gs_ret (EG.le (m := k + 1) (eg_tup (ega_cons (P := (· = .str x)) hab (eg_var (i := 3) rfl hab p32 rfl) (ega_cons (P := (· = .tuple ks)) hab (eg_var (i := 4) rfl hab p42 rfl) (ega_cons (P := fun d => okD 1 d = true) hab (eg_tup (ega_cons (P := (· = .str x)) hab (eg_var (i := 3) rfl hab p32 rfl) (ega_cons (P := (· = d8)) hab (eg_var (i := 8) rfl hab hv8 rfl) (ega_cons (P := fun d => okD 0 d = true) hab (eg_one (n := k + 1) (ds := [.int 0, .int 4, .int 59, .int 60, .none, .int 5]) hab rfl (fun H' x' kn' => ed_lst kn' (ea_cons ed_int (ea_cons ed_int (ea_cons ed_int (ea_cons ed_int (ea_cons ed_non (ea_cons ed_int ea_nil)))))) (by decide)) rfl (by decide) (by decide) (fun z hz => ?_)) ega_nil))) ?_) ega_nil))) ?_) (by omega))
    · have q' : ([PyData.int 0, .int 4, .int 59, .int 60, .none, .int 5].all (okD 0)) = true := by decide +kernel
      exact List.all_eq_true.mp q' z hz
    · rintro l ⟨d1, r1, rfl, rfl, d2, r2, rfl, rfl, d3, r3, rfl, h3, rfl⟩
      exact ⟨by rw [hsl]; show 3 ≤ 16777216; decide, ok_three (n := 0) okx ok8 h3⟩
    · rintro l ⟨d1, r1, rfl, rfl, d2, r2, rfl, rfl, d3, r3, rfl, h3, rfl⟩
      exact ⟨by rw [hsl]; show 3 ≤ 16777216; decide, ok_three (n := 7) okx (ok_up okK (by omega)) (ok_up h3 (by omega))⟩
  rcases hwd with rfl | ⟨y, i, j, rfl, hy, hy8, i0, i1, j0, j1⟩
  · cases hN
  refine gs_set (k := k + 1 + 1) (eg_take (n := k + 1 + 1) hab rfl (by decide) (by decide)) fun v6 d6 H2 x2 hv6 ⟨at_, e6, a0, a1⟩ => ?_
  subst e6
  have e6 := dq_int hv6
  subst e6
  have p42 := Dq.upB hab p4 x2
  have p32 := Dq.upB hab p3 x2
  have p52 := Dq.upB hab p5 x2
  have okw : ∀ z ∈ [PyData.str y, .int i, .int j], okD 0 z = true := fun z hz => by
    rcases List.mem_cons.mp hz with rfl | hz
    · exact ok_text hy hy8
    rcases List.mem_cons.mp hz with rfl | hz
    · exact ok_int (by omega)
    rw [List.mem_singleton.mp hz]
    exact ok_int (by omega)
  have odd2 : ∀ {n : Nat}, EG K b a (n + 1) n (tCall (spG K 1 (· = []) fun _ d => okD 3 d = true) [] E0 (tCons (tVar 0) tNil)) [some (V.ref a), some vh, some (.int way), some v3, some v4, some v5, some (.int at_), none, none] H2 (fun d => okD 3 d = true) := fun {n} => eg_call (c := 1) (S := (· = [])) hab rfl ega_nil (fun _ e => e) fun _ _ _ z => z
  have c1 := cutD_len [.str y, .int i, .int j] none (some at_)
  have c2 := cutD_len [.str y, .int i, .int j] (some (at_ + 1)) none
  have l3 : ([PyData.str y, .int i, .int j]).length = 3 := rfl
  refine gs_ret (eg_tup (ega_cons (P := (· = .str x)) hab (eg_var (i := 3) rfl hab p32 rfl) (ega_cons (P := (· = .tuple ks)) hab (eg_var (i := 4) rfl hab p42 rfl) (ega_cons (P := fun d => okD 5 d = true) hab (eg_ixL hab (eg_lst (P := fun d => ∃ d1 d2 d3, d = .list [d1, d2, d3] ∧ okD 5 d1 = true ∧ okD 5 d2 = true ∧ okD 5 d3 = true)
    (ega_cons (P := fun d => okD 5 d = true) (k := k + 1) hab (eg_catT hab (eg_catT (P := fun d => ∃ ds, d = .tuple ds ∧ ds.length ≤ 4 ∧ ∀ z ∈ ds, okD 4 z = true) hab (eg_pure (P := (· = .tuple (cutD [.str y, .int i, .int j] none (some at_)))) (fun H' x' kn' => ed_slT kn' (ed_var (i := 5) rfl (Dq.upB hab p52 x')) eo_none (eo_some (K := K) (b := b) (ed_var (i := 6) (d := .int at_) rfl (.int _)))) rfl) (eg_tup (P := fun d => ∃ e, d = .tuple [e] ∧ okD 3 e = true) (ega_cons hab (odd2 (n := k + 1)) ega_nil) ?_) ?_) (eg_pure (P := (· = .tuple (cutD [.str y, .int i, .int j] (some (at_ + 1)) none))) (fun H' x' kn' => ed_slT kn' (ed_var (i := 5) rfl (Dq.upB hab p52 x')) (eo_some (K := K) (b := b) (ed_add (ed_var (i := 6) (d := .int at_) rfl (.int _)) ed_int)) eo_none) rfl) ?_)
    (ega_cons (P := fun d => okD 5 d = true) hab (eg_pure (d := .tuple [.str y, .int i]) (fun H' x' kn' => ed_slT kn' (ed_var (i := 5) rfl (Dq.upB hab p52 x')) eo_none (eo_some (K := K) (b := b) (ed_int (i := 2)))) ?_)
    (ega_cons (P := fun d => okD 5 d = true) hab (eg_pure (d := .list [.str y, .int i, .int j]) (fun H' x' kn' => ed_listOf kn' (ed_var (i := 5) rfl (Dq.upB hab p52 x'))) ?_) ega_nil))) ?_) (eg_take (n := k) hab rfl (by decide) (by decide)) ?_) ega_nil))) ?_)
  · rintro l ⟨d1, r1, rfl, h3, rfl⟩
    exact ⟨by rw [hsl]; show 1 ≤ 16777216; decide, d1, rfl, h3⟩
  · rintro d e rfl ⟨e', rfl, h3⟩
    refine ⟨_, _, rfl, rfl, by rw [List.length_singleton, hsl]; omega, _, rfl, by rw [List.length_append, List.length_singleton]; omega, fun z hz => ?_⟩
    rcases List.mem_append.mp hz with hz | hz
    · exact ok_up (okw z (cutD_mem hz)) (by omega)
    · rw [List.mem_singleton.mp hz]
      exact ok_up h3 (by omega)
  · rintro d e ⟨ds, rfl, hl4, h4⟩ rfl
    refine ⟨_, _, rfl, rfl, by rw [hsl]; omega, ok_tup (by rw [List.length_append]; omega) fun z hz => ?_⟩
    rcases List.mem_append.mp hz with hz | hz
    · exact h4 z hz
    · exact ok_up (okw z (cutD_mem hz)) (by omega)
  · exact ok_tup (by show 2 ≤ 1000; decide) fun z hz => ok_up (okw z (by
      rcases List.mem_cons.mp hz with rfl | hz
      · exact List.mem_cons_self
      rw [List.mem_singleton.mp hz]
      exact List.mem_cons_of_mem _ List.mem_cons_self)) (by omega)
  · exact ok_lst (by show 3 ≤ 1000; decide) fun z hz => ok_up (okw z hz) (by omega)
  · rintro l ⟨d1, r1, rfl, h3, d2, r2, rfl, h4, d3, r3, rfl, h5, rfl⟩
    exact ⟨by rw [hsl]; show 3 ≤ 16777216; decide, d1, d2, d3, rfl, h3, h4, h5⟩
  · rintro d e ⟨d1, d2, d3, rfl, h3, h4, h5⟩ ⟨j, rfl, j0, j1⟩
    rcases (show j = 0 ∨ j = 1 ∨ j = 2 by omega) with rfl | rfl | rfl
    · exact ⟨_, 0, _, rfl, rfl, atI0 _ _, h3⟩
    · exact ⟨_, 1, _, rfl, rfl, atI1 _ _ _, h4⟩
    · exact ⟨_, 2, _, rfl, rfl, atI2 _ _ _ _, h5⟩
  · rintro l ⟨d1, r1, rfl, rfl, d2, r2, rfl, rfl, d3, r3, rfl, h3, rfl⟩
    exact ⟨by rw [hsl]; show 3 ≤ 16777216; decide, ok_three (n := 7) okx (ok_up okK (by omega)) (ok_up h3 (by omega))⟩
end
end Wr

set_option Elab.async false
set_option linter.all false
set_option maxRecDepth 100000
set_option maxHeartbeats 4000000
namespace Wr
open PySem PySem.Spec PyProof.Rows L2 Evl
abbrev s_rf : Stmt := topS 42
theorem sc_rf : FnScope ["_law_thing"] ["_law_thing"] (defScope s_rf) := ⟨rfl, rfl, rfl, by decide +kernel, rfl, by decide +kernel, by decide +kernel⟩
def spRf (K : PySem.W.Frag) : Sp := fun vs H Q _ => ∃ b d, Kn b H ∧ DqAll K b H vs [d] ∧ okD 30 d = true ∧ progD d = false ∧ ∀ H', Ex H H' → Q (.bl true) H'
section
variable {P : Program} {w : World} {K : PySem.W.Frag} {mg : Str → Option Value} {base : Heap} {C f g g2 : Addr} {fd gd gd2 : FuncData}
theorem ok_rf (D : Def K mg "_law_refused" s_rf ["_law_thing"] f fd) (D1 : Def K mg "is_hook" s_hook ["program", "thing"] g gd) (G1 : FnOk P w K mg base (L2.CX P w) 7 g gd ["program", "thing"] (spHk K C)) (T : NgC K mg C) (te : PySem.W.exmOne K (.ref C) (.ref C) = some true) :
    FnOk P w K mg base CX0 8 f fd ["_law_thing"] (spRf K) := by
  refine D.F.ok sc_rf (fun vs H Q E ⟨b, d, _, hd, _⟩ => by rw [dps_len hd]; rfl) (fun cdv A outer s H vs Q E hr h => ?_)
  obtain ⟨b, d, kn, hd, hok, hnp, q⟩ := h
  obtain ⟨v, d', rfl, e, h1⟩ := one_of hd rfl
  cases e
  refine ⟨_, pss_cons (ps_try_only rfl rfl ⟨rfl, by decide, .inl T.m⟩ takes0
      (fun W pn xe tkk _ => pss_one (ps_expr (pe_callS (E := WE W) G1 hr rfl D1.m D1.F.kp D1.b (fun σ => passAt tkk σ) (pa_cons (pv 0) (pa_cons (pe_tupF (pa_cons pe_str (pa_cons (pe_tupF (pa_cons pe_str pa_nil)) (pa_cons pe_non pa_nil)))) pa_nil)))))
      (fun a oe cls d pn hz hf => pss_one (ps_ret pe_bl)))
    (pss_one (ps_ret pe_bl)), ?_⟩
  refine ⟨v, rfl, ?_⟩
  have ht := ed_tup (K := K) (b := b) (σ := start ["_law_thing"] [v]) (ds := [.str "g", .tuple [.str "row"], .none]) kn (ea_cons ed_str (ea_cons (ed_tup kn (ea_cons ed_str ea_nil) (by decide)) (ea_cons ed_non ea_nil))) (by decide)
  refine ht H (Ex.refl H) _ fun u H1 x1 hu => ⟨b, d, _, kn.up x1, .cons (Dq.up h1 x1) (.cons hu .nil), hok, by decide +kernel, fun hp => ?_, fun _ H2 x2 => ⟨true, te, fun _ a ha => q H2 (x1.trans x2), fun z => nomatch z⟩⟩
  rw [hnp] at hp
  cases hp
end
theorem part_none {ps : List PyData} (h : PartsOk ps) {p : PyData} (hp : p ∈ ps) : progD p = false := by
  obtain ⟨x, cs, r, rfl, _⟩ := h.2.2 p hp
  cases hq : progD (.tuple [.str x, .tuple cs, r]) with
  | false => rfl
  | true =>
    have h' : (headedAll (.tuple [.str x, .tuple cs, r]) 8 && [PyData.str x, .tuple cs, r].all fun p => rowsD (thd p) (strsOf ([PyData.str x, .tuple cs, r].map fst))) = true := hq
    rw [Bool.and_eq_true] at h'
    have h2 : ((decide (1 ≤ [PyData.str x, .tuple cs, r].length) && decide (([PyData.str x, .tuple cs, r].length : Int) ≤ 8)) && ([PyData.str x, .tuple cs, r].all headedD && unlikeS (strsOf ([PyData.str x, .tuple cs, r].map fst)))) = true := h'.1
    rw [Bool.and_eq_true, Bool.and_eq_true (a := [PyData.str x, .tuple cs, r].all headedD)] at h2
    have := List.all_eq_true.mp h2.2.1 (.str x) List.mem_cons_self
    cases this
section
variable {K : PySem.W.Frag} {b : List Addr} {a : Addr} {n m k : Nat} {σ : L2.St} {H H' : Hp} {ta tb te : TE} {t : TA} {ts : TS} {d x y z : PyData} {ds es : List PyData} {D : Ends}
/-- x = [..], the things drawn, the list known -/
theorem g_lstG {i : Nat} {R : List PyData → Prop} (h : EGA K b a n m t σ H R) (kn : Kn b H) (bg : Bag a n H) (hl : ∀ ds, R ds → ds.length ≤ sizeLine) (k : ∀ p vs ds H' H'', H p = none → ExB a H H' → Ex H' H'' → Bag a m H'' → Kn (p :: b) H'' → H'' p = some (.lst vs) → DqAll K (p :: b) H'' vs ds → R ds → ts D (σ.set i (some (.ref p))) H'') : tSeq (tAsg (tLst t) (gName i)) ts D σ H :=
  h H (ExB.refl a H) kn bg _ fun vs ds H' x bg' hvs hr => ⟨by rw [dps_len hvs]; exact hl ds hr, fun p hp => k p vs ds H' _ (by
    cases z : H p with
    | none => rfl
    | some o =>
      by_cases e : p = a
      · subst e
        exact absurd hp bg'.there
      · rw [x p o e z] at hp
        cases hp) x (Ex.new hp) (bg'.ex (Ex.new hp)) (fun c hc => by
    rcases List.mem_cons.mp hc with rfl | hc
    · rw [upd_same]; intro z; cases z
    · exact (x.kn kn bg').up (Ex.new hp) c hc) upd_same (dps_ex put_ex _ _ (dps_ex (hide_ex hp) _ _ hvs)) hr⟩
/-- an item of a list that is known -/
theorem ed_ixK {p : Addr} {vs : List V} {j : Nat} {i : Nat} {v : V} (hs : σ[j]? = some (some (.ref p))) (h : H p = some (.lst vs)) (hi : vs[i]? = some v) (hv : Dq K b H v d) : ED K b (tOp (rIxL K) (tVar j) (tC (.int (i : Nat)))) σ H d := fun H1 x1 Q q =>
  ⟨.ref p, hs, p, vs, (i : Nat), v, rfl, rfl, .inl (.inl (x1 _ _ h)), atI_nat hi, q _ H1 (Ex.refl H1) (hv.up x1)⟩
end
end Wr

set_option Elab.async false
set_option linter.all false
set_option maxRecDepth 100000
set_option maxHeartbeats 4000000
namespace Wr
open PySem PySem.Spec PyProof.Rows L2 Evl
abbrev s_law : Stmt := topS 43
abbrev NW : List Str := ["_law_script", "_law_at", "_law_bag_here", "_law_program_here", "_law_hook", "_law_some", "_law_thing", "_law_found"]
theorem sc_law : FnScope NW ["_law_script"] (defScope s_law) := ⟨rfl, rfl, rfl, by decide +kernel, rfl, by decide +kernel, by decide +kernel⟩
theorem eqv_bl (c : Bool) : PyData.eqv (.bool c) (.bool c) = true := by
  cases c <;> simp only [PyData.eqv] <;> rfl
/-- whether the second thing is cut -/
def cutQ (d : PyData) : Bool := match d with
  | .tuple [_, .tuple (_ :: _), _] => true
  | _ => false
section
variable {K : PySem.W.Frag} {b : List Addr} {σ : L2.St} {H H' : Hp} {te : TE} {d : PyData}
theorem et_cut (kn : Kn b H) (h : ED K b te σ H d) (ok : okD 8 d = true) : ∃ c, EvT (tAnd (tB (tCB (rIsi K) (tCons te (tCons (tC (.ty "tuple")) tNil)))) (tAnd (tTest (tOp (rEqD K) (tCB (rLen K) (tCons te tNil)) (tC (.int 3)))) (tAnd (tB (tCB (rIsi K) (tCons (tOp (rIxT K) te (tC (.int 1))) (tCons (tC (.ty "tuple")) tNil)))) (tTest (tOp (rNeD K) (tOp (rIxT K) te (tC (.int 1))) (tTupF tNil)))))) σ H c ∧ (c = true → ∃ x ys z, d = .tuple [x, .tuple ys, z]) := by
  have t1 := et_b (ed_isi (K := K) (b := b) (T := "tuple") (.inr (.inr (.inr (.inl rfl)))) h)
  cases hs : isD "tuple" d with
  | false =>
    rw [hs] at t1
    exact ⟨false, et_and (b := false) t1 (fun h => nomatch h), fun h => nomatch h⟩
  | true =>
    obtain ⟨ds, rfl⟩ := isD_tuple hs
    rw [hs] at t1
    have t2 := et_t (ed_eq (K := K) (b := b) (ed_len h (.inr (.inr hs)) fun y e => by cases e) (ed_int (i := 3)) (sh_int _) (sh_int _))
    rw [eqv_int] at t2
    by_cases h3 : ds.length = 3
    · obtain ⟨x, y, z, rfl⟩ : ∃ x y z, ds = [x, y, z] := by
        match ds, h3 with
        | [x, y, z], _ => exact ⟨x, y, z, rfl⟩
      have oky : okD 7 y = true := ok_items (n := 7) ok y (by simp)
      have i1 := ed_ixT (K := K) (b := b) h (ed_int (i := 1)) (atI1 x y [z])
      have t3 := et_b (ed_isi (K := K) (b := b) (T := "tuple") (.inr (.inr (.inr (.inl rfl)))) i1)
      have t4 := et_t (ed_ne (K := K) (b := b) i1 (ed_tup (ds := []) kn ea_nil (by decide)) (ok_shaped oky) sh_nil)
      have t34 := et_and t3 fun _ => t4
      have t234 := et_and t2 fun _ => t34
      refine ⟨_, et_and t1 fun _ => t234, fun hc => ?_⟩
      rw [Bool.and_eq_true, Bool.and_eq_true, Bool.and_eq_true] at hc
      obtain ⟨ys, rfl⟩ := isD_tuple hc.2.2.1
      exact ⟨x, ys, z, rfl⟩
    · have e3 : (((lenD (.tuple ds) : Nat) : Int) == 3) = false := beq_eq_false_iff_ne.mpr (by show ¬ ((ds.length : Nat) : Int) = 3; omega)
      rw [e3] at t2
      have t234 := fun (u : TT) => et_and (u := u) (b := false) t2 (fun h => nomatch h)
      exact ⟨false, et_and t1 fun _ => t234 _, fun h => nomatch h⟩
end
end Wr

set_option Elab.async false
set_option linter.all false
set_option maxRecDepth 100000
set_option maxHeartbeats 4000000
namespace Wr
open PySem PySem.Spec PyProof.Rows L2 Evl
theorem g_ifPv {σ : L2.St} {H : Hp} {tt : TT} {t1 ts : TS} {D : Ends} {c : Bool} (Pv : L2.St → Hp → Prop) (ev : EvT tt σ H c) (h1 : c = true → ∀ H1, Ex H H1 → ∀ D' : Ends, (∀ σ' H', Pv σ' H' → D'.nx σ' H') → t1 D' σ H1) (h2 : c = false → ∀ H1, Ex H H1 → Pv σ H1) (hk : ∀ σ' H', Pv σ' H' → ts D σ' H') : tSeq (tIfS tt t1 tNext) ts D σ H :=
  ev H (Ex.refl H) _ fun H1 x1 => by
    cases c with
    | true =>
      rw [if_pos rfl]
      exact h1 rfl H1 x1 _ fun σ' H' p => hk σ' H' p
    | false =>
      rw [if_neg Bool.false_ne_true]
      exact hk _ _ (h2 rfl H1 x1)
section
variable {P : Program} {w : World} {K : PySem.W.Frag} {mg : Str → Option Value} {base : Heap} {C f g1 g2 g3 g4 g5 g6 g7 g8 g9 g10 : Addr} {fd gd1 gd2 gd3 gd4 gd5 gd6 gd7 gd8 gd9 gd10 : FuncData}
theorem ok_law (D : Def K mg "law" s_law ["_law_script"] f fd) (B : Blt mg) (B2 : Blt2 mg) (D1 : Def K mg "_law_bag" s_bag ["_law_script", "_law_at"] g1 gd1) (D2 : Def K mg "_law_program" s_prg ["_law_bag_here"] g2 gd2) (D3 : Def K mg "_law_take" s_take ["_law_bag_here", "_law_many"] g3 gd3)
    (D4 : Def K mg "_law_kinds" s_kd ["_law_bag_here"] g4 gd4) (D5 : Def K mg "_law_where" s_lw ["_law_bag_here", "_law_program_here"] g5 gd5) (D6 : Def K mg "_law_odd" s_odd ["_law_bag_here"] g6 gd6) (D7 : Def K mg "_law_otherwise" s_ot ["_law_bag_here", "_law_hook"] g7 gd7)
    (D8 : Def K mg "is_hook" s_hook ["program", "thing"] g8 gd8) (G8 : FnOk P w K mg base (L2.CX P w) 7 g8 gd8 ["program", "thing"] (spHk K C))
    (D9 : Def K mg "_law_is_hook" s_lish ["_law_program_here", "_law_thing"] g9 gd9) (G9 : FnOk P w K mg base CX0 3 g9 gd9 ["_law_program_here", "_law_thing"] (spP K WhPre (F2 fun p d => hookD (itT p) d)))
    (D10 : Def K mg "_law_refused" s_rf ["_law_thing"] g10 gd10) (G10 : FnOk P w K mg base CX0 8 g10 gd10 ["_law_thing"] (spRf K)) : FnG P w K mg base 9 f fd ["_law_script"] (spLaw K) := by
  refine D.okG sc_law (fun vs H Q E ⟨a, ns, e, _⟩ => by rw [e]; rfl) (fun cdv A outer s H vs Q E hg hr h => ?_)
  obtain ⟨a, ns, rfl, hS, hn, q⟩ := h
  have r1 : Room 1 _ := hr.mono (by decide)
  have r2 : Room 2 _ := hr.mono (by decide)
  have r3 : Room 3 _ := hr.mono (by decide)
  have r7 : Room 7 _ := hr.mono (by decide)
  have G1 := ok_bag (P := P) (w := w) (base := base) D1 B B2
  have G2 := ok_prg (P := P) (w := w) (base := base) D2 D3 B
  have G3 := ok_take (P := P) (w := w) (base := base) D3
  have G4 := ok_kd (P := P) (w := w) (base := base) D4 D3 B
  have G5 := ok_lw (P := P) (w := w) (base := base) D5 D3 B
  have G6 := ok_odd (P := P) (w := w) (base := base) D6 D3
  have G7 := ok_ot (P := P) (w := w) (base := base) D7 D3 D6 B
  refine ⟨_, pss_cons (ps_for PassesOwn.never rfl (pi_range1 rfl B.range (pa_cons (pe_callB (cr_max2 rfl) rfl B2.max bb_max (pa_cons pe_int (pa_cons (pe_callB (cr_min2 rfl) rfl B2.min bb_min (pa_cons pe_int (pa_cons (pe_callB call_lenD1 rfl B.len bb_len (pa_cons (pv 0) pa_nil)) pa_nil))) pa_nil))) pa_nil)) (pg_name (i := 1) sc_law.nd rfl (Or.inl rfl))
      (pss_cons (ps_set (i := 2) sc_law.nd rfl (Or.inl rfl) (pe_cd D1 G1 r1 (pa_cons (pv 0) (pa_cons (pv 1) pa_nil))))
      (pss_cons (ps_set (i := 3) sc_law.nd rfl (Or.inl rfl) (pe_cd D2 G2 r2 (pa_cons (pv 2) pa_nil)))
      (pss_cons (ps_set (i := 4) sc_law.nd rfl (Or.inl rfl) (pe_tupF (pa_cons (pe_ix (r := rIxT K) ix_tup (pe_ix (r := rIxT K) ix_tup (pv 3) (pe_cd D3 G3 r1 (pa_cons (pv 2) (pa_cons (pe_callB call_lenD1 rfl B.len bb_len (pa_cons (pv 3) pa_nil)) pa_nil))) (fun _ _ => rfl)) pe_int (fun _ _ => rfl)) (pa_cons (pe_cd D4 G4 r2 (pa_cons (pv 2) pa_nil)) (pa_cons (pe_cd D5 G5 r2 (pa_cons (pv 2) (pa_cons (pv 3) pa_nil))) pa_nil)))))
      (pss_cons (ps_set (i := 5) sc_law.nd rfl (Or.inl rfl) (pe_lst (pa_cons (pv 4) (pa_cons (pe_cd D6 G6 r2 (pa_cons (pv 2) pa_nil)) (pa_cons (pe_cd D7 G7 r3 (pa_cons (pv 2) (pa_cons (pv 4) pa_nil))) (pa_cons (pe_cd D7 G7 r3 (pa_cons (pv 2) (pa_cons (pv 4) pa_nil))) pa_nil))))))
      (pss_cons (ps_if (PW.pt (pw_and (pt_val (pe_callB call_isi rfl B.isi bb_isinstance (pa_cons (pe_ix (r := rIxL K) ix_list (pv 5) pe_int (fun _ _ => rfl)) (pa_cons (pe_tyN rfl B.tuple bt_tuple) pa_nil))))
          (pw_and (pt_cmpR (op_eqD (hu64 hr)) (pe_callB call_lenD1 rfl B.len bb_len (pa_cons (pe_ix (r := rIxL K) ix_list (pv 5) pe_int (fun _ _ => rfl)) pa_nil)) pe_int (nomark _))
          (pw_and (pt_val (pe_callB call_isi rfl B.isi bb_isinstance (pa_cons (pe_ix (r := rIxT K) ix_tup (pe_ix (r := rIxL K) ix_list (pv 5) pe_int (fun _ _ => rfl)) pe_int (fun _ _ => rfl)) (pa_cons (pe_tyN rfl B.tuple bt_tuple) pa_nil))))
          (pw_and1 (pt_cmpR (op_neD (hu64 hr)) (pe_ix (r := rIxT K) ix_tup (pe_ix (r := rIxL K) ix_list (pv 5) pe_int (fun _ _ => rfl)) pe_int (fun _ _ => rfl)) (pe_tupF pa_nil) (nomark _)))))))
        (pss_one (ps_expr (pe_bm PySem.F.plainAttrs_list PySem.F.slot_list_append PySem.F.type_list_append mt_append (pv 5) (pa_cons (pe_op op_catF (pe_tupF (pa_cons (pe_ix (r := rIxT K) ix_tup (pe_ix (r := rIxT K) ix_tup (pv 3) (pe_cd D3 G3 r1 (pa_cons (pv 2) (pa_cons (pe_callB call_lenD1 rfl B.len bb_len (pa_cons (pv 3) pa_nil)) pa_nil))) (fun _ _ => rfl)) pe_int (fun _ _ => rfl)) pa_nil)) (pe_slice sl_tupF (pe_ix (r := rIxL K) ix_list (pv 5) pe_int (fun _ _ => rfl)) (po_some pe_int) po_none)) pa_nil)))) pss_nil)
      (pss_cons (ps_for PassesOwn.never rfl (pi_list (pv 5)) (pg_name (i := 6) sc_law.nd rfl (Or.inl rfl))
        (pss_cons (ps_set (i := 7) sc_law.nd rfl (Or.inl rfl) (pe_cd D8 (FnOk.calm G8) r7 (pa_cons (pv 3) (pa_cons (pv 6) pa_nil))))
        (pss_one (ps_if (PW.pt (pw_or (pt_not (pt_val (pe_callB call_isi rfl B.isi bb_isinstance (pa_cons (pv 7) (pa_cons (pe_tyN rfl B.bool bt_bool) pa_nil))))) (pw_or1 (pt_cmpR (op_neD (hu64 hr)) (pv 7) (pe_cd D9 G9 r3 (pa_cons (pv 3) (pa_cons (pv 6) pa_nil))) (nomark _))))) (pss_one (ps_ret pe_bl)) pss_nil))))
      (pss_one (ps_if (pt_not (pt_val (pe_cd D10 G10 hr (pa_cons (pe_ix (r := rIxL K) ix_list (pe_lst (pa_cons pe_non (pa_cons (pe_ix (r := rIxT K) ix_tup (pv 3) pe_int (fun _ _ => rfl)) (pa_cons (pe_callTy call_listF rfl B.list bt_list (pa_cons (pv 3) pa_nil)) (pa_cons (pe_tupF pa_nil) pa_nil))))) (pe_cd D3 G3 r1 (pa_cons (pv 2) (pa_cons pe_int pa_nil))) (fun _ _ => rfl)) pa_nil)))) (pss_one (ps_ret pe_bl)) pss_nil)))))))))
    (pss_one (ps_ret pe_bl)), ?_⟩
  have hsl : sizeLine = 16777216 := sizeLine_eq
  have hD : ∀ {H'}, Ex H H' → Dq K [] H' (.ref a) (.list (ns.map .int)) := fun {H'} x => by
    show Dd K (hid [] H') _ _
    rw [hid_nil]
    exact .lst (ex_l x hS) (ints_dps ns)
  have kn0 : ∀ {H' : Hp}, Kn [] H' := fun z hz => nomatch hz
  have cnt := ed_max2 (K := K) (b := []) (ed_int (i := 1)) (ed_min2 (ed_int (i := 8)) (ed_len (ed_var (σ := start NW [.ref a]) (i := 0) rfl (hD (Ex.refl H))) (.inr (.inl rfl)) fun y e => by cases e))
  have c0 : ∀ ll : Int, 1 ≤ (if (if ll < 8 then ll else 8) > 1 then (if ll < 8 then ll else 8) else 1) ∧ (if (if ll < 8 then ll else 8) > 1 then (if ll < 8 then ll else 8) else 1) ≤ 8 := fun ll => by
    by_cases h1 : ll < 8
    · rw [if_pos h1]
      by_cases h2 : ll > 1
      · rw [if_pos h2]; omega
      · rw [if_neg h2]; omega
    · rw [if_neg h1, if_pos (by decide)]; omega
  have c1 := c0 ((lenD (.list (ns.map PyData.int)) : Nat) : Int)
  generalize (if (if ((lenD (.list (ns.map PyData.int)) : Nat) : Int) < 8 then ((lenD (.list (ns.map PyData.int)) : Nat) : Int) else 8) > 1 then (if ((lenD (.list (ns.map PyData.int)) : Nat) : Int) < 8 then ((lenD (.list (ns.map PyData.int)) : Nat) : Int) else 8) else 1) = N at c1 cnt
  refine g_forR (Pv := fun i σ' H' => (∃ y1 y2 y3 y4 y5 y6 y7, σ' = [some (.ref a), y1, y2, y3, y4, y5, y6, y7]) ∧ Ex H H') cnt (by omega) (by omega) (fun H1 x1 => ⟨⟨none, none, none, none, none, none, none, rfl⟩, x1⟩) ?_ ?_
  · intro i σ' H' hi ⟨⟨y1, y2, y3, y4, y5, y6, y7, eσ⟩, xH⟩
    subst eσ
    refine ⟨.ref a, rfl, .int (0 + i), rfl, [], ns, 0 + i, kn0, ?_, by omega, by omega, fun p H2 hp x2 bg => ?_⟩
    · exact .cons (hD xH) (.cons (.int _) .nil)
    have hp0 : H p = none := by
      cases z : H p with
      | none => rfl
      | some o => rw [xH _ _ z] at hp; cases hp
    have hab : p ∈ [p] := List.mem_singleton.mpr rfl
    refine g_setG (K := K) (b := [p]) (a := p) (n := 999967 + 33) (k := 999967) (P1 := PrgP) (eg_call (c := 33) (S := (· = [])) hab rfl ega_nil (fun _ e => e) fun _ _ _ z => z) bg.kn bg fun v d H3 x3 b3 kn3 hv ⟨ps, ed, pr, okp⟩ => ?_
    subst ed
    have pok := parts_ok pr okp
    have hl8 := pok.1
    have hl1 := pok.2.1
    have xH3 : Ex H H3 := ex_exb hp0 (xH.trans x2) x3
    have b3' : Bag p (2 + 4 + 4 + 1 + 7 + 6 + 1) H3 := b3.le (by omega)
    -- a part's name, drawn
    have nm : ∀ {n : Nat} {σ : L2.St} {H' : Hp}, σ[2]? = some (some (.ref p)) → σ[3]? = some (some v) → Dq K [p] H' v (.tuple ps) → EG K [p] p (n + 1) n (tOp (rIxT K) (tOp (rIxT K) (tVar 3) (tCall (spTake K) [] E0 (tCons (tVar 2) (tCons (tCB (rLen K) (tCons (tVar 3) tNil)) tNil)))) (tC (.int 0))) σ H' (fun d => ∃ x : Str, d = .str x ∧ PyData.strOk x = true ∧ x.length ≤ 8) := fun {n σ H'} h2 h3 hd => by
      refine eg_ixT hab (eg_ixT (P := fun d => d ∈ ps) hab (eg_var (P := (· = .tuple ps)) (i := 3) h3 hab hd rfl) (eg_takeE (u := (ps.length : Nat)) (n := n + 1) (m := n) (P1 := (· = .int (ps.length : Nat))) hab h2 (eg_pure (fun H'' x' kn' => ed_len (d := .tuple ps) (ed_var (i := 3) h3 (Dq.upB hab hd x')) (.inr (.inr rfl)) fun y e => by cases e) rfl) (fun d e => ⟨_, e, by omega, by omega, Int.le_refl _⟩)) ?_) (eg_pure (P := (· = .int 0)) (fun _ _ _ => ed_int) rfl) ?_
      · rintro d e rfl hi'
        obtain ⟨j', z, rfl, hz, hm⟩ := intB_at (ds := ps) hi' (by omega)
        exact ⟨_, j', z, rfl, rfl, hz, hm⟩
      · rintro d e hm rfl
        obtain ⟨x, cs, r, rfl, hx, hx8⟩ := pok.2.2 d hm
        exact ⟨_, 0, _, rfl, rfl, atI0 _ _, x, rfl, hx, hx8⟩
    refine g_setG (K := K) (b := [p]) (a := p) (n := 2 + 4 + 4 + 1 + 7 + 6 + 1) (k := 2 + 4 + 4 + 1) (P1 := HookP) (eg_tup (ega_cons (k := 2 + 4 + 4 + 1 + 7 + 6) hab (nm rfl rfl hv) (ega_cons (P := KindsP) (k := 2 + 4 + 4 + 1 + 7) hab (eg_call (c := 6) (S := (· = [])) hab rfl ega_nil (fun _ e => e) fun _ _ _ z => z) (ega_cons (P := WhereP) hab (eg_call (c := 7) (S := fun ds => ds = [.tuple ps]) hab rfl (fun H' x' kn' bg' Q q => ega_cons (P := (· = .tuple ps)) hab (eg_var (i := 3) rfl hab hv rfl) ega_nil H' x' kn' bg' Q fun vs ds H'' x'' b'' hvs ⟨d, r, e, e1, e2⟩ => q vs ds H'' x'' b'' hvs (by rw [e, e1, e2])) (fun ds e => ⟨ps, e, pok⟩) fun _ _ _ z => z) ega_nil))) ?_) kn3 b3' fun vk dk H4 x4 b4 kn4 hvk hkP => ?_
    · rintro l ⟨d1, r1', rfl, ⟨x, rfl, hx, hx8⟩, d2, r2', rfl, h2', d3, r3', rfl, h3', rfl⟩
      exact ⟨by rw [hsl]; show 3 ≤ 16777216; decide, x, d2, d3, rfl, hx, hx8, h2', h3'⟩
    have okk : okD 8 dk = true := by
      obtain ⟨x, kd, wd, rfl, hx, hx8, hkd, hwd⟩ := hkP
      obtain ⟨ks, rfl, k1, k5, ok0⟩ := hkd.ok
      exact ok_three (n := 7) (ok_text hx hx8) (ok_up (ok_tup (n := 0) (by omega) ok0) (by omega)) (ok_up hwd.ok (by omega))
    have hv4 := Dq.upB hab hv x4
    have ot : ∀ {n : Nat}, EG K [p] p (n + 4) n (tCall (spG K 4 (fun ds => ∃ d, ds = [d] ∧ HookP d) fun _ d => okD 8 d = true) [] E0 (tCons (tVar 2) (tCons (tVar 4) tNil))) [some (V.ref a), some (.int (0 + i)), some (.ref p), some v, some vk, y5, y6, y7] H4 (fun d => okD 8 d = true) := fun {n} =>
      eg_call (c := 4) (S := fun ds => ds = [dk]) hab rfl (fun H' x' kn' bg' Q q => ega_cons (P := (· = dk)) hab (eg_var (i := 4) rfl hab hvk rfl) ega_nil H' x' kn' bg' Q fun vs ds H'' x'' b'' hvs ⟨d, r, e, e1, e2⟩ => q vs ds H'' x'' b'' hvs (by rw [e, e1, e2])) (fun ds e => ⟨dk, e, hkP⟩) fun _ _ _ z => z
    show tSeq _ _ _ [some (V.ref a), some (.int (0 + i)), some (.ref p), some v, some vk, y5, y6, y7] H4
    refine g_lstG (K := K) (b := [p]) (a := p) (n := 2 + 4 + 4 + 1) (m := 2) (ega_cons (P := (· = dk)) hab (eg_var (i := 4) rfl hab hvk rfl) (ega_cons (P := fun d => okD 3 d = true) (k := 2 + 4 + 4) hab (eg_call (c := 1) (S := (· = [])) hab rfl ega_nil (fun _ e => e) fun _ _ _ z => z) (ega_cons (k := 2 + 4) hab ot (ega_cons hab ot ega_nil)))) kn4 b4 (fun ds hR => ?_) fun pS vs ds H5 H6 hpS x5 x6 b6 kn6 hS6 hds hR => ?_
    · obtain ⟨d1, r1', rfl, _, d2, r2', rfl, _, d3, r3', rfl, _, d4, r4', rfl, _, rfl⟩ := hR
      rw [hsl]
      show 4 ≤ 16777216
      decide
    obtain ⟨d1, r1', rfl, rfl, d2, r2', rfl, o2, d3, r3', rfl, o3, d4, r4', rfl, o4, rfl⟩ := hR
    have hpSa : pS ≠ p := fun e => by
      rw [e] at hpS
      exact b4.there hpS
    have xH4 : Ex H H4 := ex_exb hp0 xH3 (fun c o n h => x4 c o n h)
    have hSH : H pS = none := by
      cases z : H pS with
      | none => rfl
      | some o => rw [xH4 _ _ z] at hpS; cases hpS
    have xH6 : Ex H H6 := (ex_exb hp0 xH4 x5).trans x6
    have hv6 : Dq K (pS :: [p]) H6 v (.tuple ps) := dp_ex (hid_ex x6) _ _ (dp_ex (hid_exB (List.mem_cons_of_mem _ hab) x5) _ _ (Dq.hide hv4 hpS))
    have habS : p ∈ pS :: [p] := List.mem_cons_of_mem _ hab
    obtain ⟨v3, hv3i, hv3d⟩ := dps_get hds (i := 2) (d := d3) rfl
    obtain ⟨c, ev, hc⟩ := et_cut (K := K) (b := pS :: [p]) (σ := [some (V.ref a), some (.int (0 + i)), some (.ref p), some v, some vk, some (.ref pS), y6, y7]) kn6 (ed_ixK (i := 2) (j := 5) rfl hS6 hv3i hv3d) o3
    have all4 : ∀ d ∈ [d1, d2, d3, d4], okD 9 d = true := fun d hd => by
      rcases List.mem_cons.mp hd with rfl | hd
      · exact ok_up okk (by omega)
      rcases List.mem_cons.mp hd with rfl | hd
      · exact ok_up o2 (by omega)
      rcases List.mem_cons.mp hd with rfl | hd
      · exact ok_up o3 (by omega)
      rw [List.mem_singleton.mp hd]
      exact ok_up o4 (by omega)
    refine g_ifPv (fun σ' H' => σ' = [some (V.ref a), some (.int (0 + i)), some (.ref p), some v, some vk, some (.ref pS), y6, y7] ∧ Ex H H' ∧ Bag p 1 H' ∧ Kn (pS :: [p]) H' ∧ Dq K (pS :: [p]) H' v (.tuple ps) ∧ ∃ vs ds, H' pS = some (.lst vs) ∧ DqAll K (pS :: [p]) H' vs ds ∧ ds.length ≤ 5 ∧ ∀ d ∈ ds, okD 9 d = true) ev (fun hct H7 x7 D' hk => ?_) (fun _ H7 x7 => ?_) ?_
    · obtain ⟨x, ys, z, e3⟩ := hc hct
      subst e3
      have hv7 := Dq.up hv6 x7
      refine g_appG (K := K) (b := pS :: [p]) (a := p) (n := 1 + 1) (m := 1) (F := pS) (P1 := fun d => okD 9 d = true) (j := 5) rfl hpSa (x7 _ _ hS6) ?_ (eg_catT habS (eg_tup (P := fun d => ∃ x : Str, d = .tuple [.str x] ∧ PyData.strOk x = true ∧ x.length ≤ 8) (ega_cons habS (eg_ixT habS (eg_ixT (P := fun d => d ∈ ps) habS (eg_var (P := (· = .tuple ps)) (i := 3) rfl habS hv7 rfl) (eg_takeE (u := (ps.length : Nat)) (n := 1 + 1) (m := 1) (P1 := (· = .int (ps.length : Nat))) habS rfl (eg_pure (fun H'' x' kn' => ed_len (d := .tuple ps) (ed_var (i := 3) rfl (Dq.upB habS hv7 x')) (.inr (.inr rfl)) fun y e => by cases e) rfl) (fun d e => ⟨_, e, by omega, by omega, Int.le_refl _⟩)) ?_) (eg_pure (P := (· = .int 0)) (fun _ _ _ => ed_int) rfl) (P := fun d => ∃ x : Str, d = .str x ∧ PyData.strOk x = true ∧ x.length ≤ 8) ?_) ega_nil) ?_) (eg_pure (P := (· = .tuple [.tuple ys, z])) (fun H'' x' kn' => ed_slT kn' (ed_ixK (i := 2) (j := 5) rfl (x' _ _ hpSa (x7 _ _ hS6)) hv3i (Dq.upB habS (Dq.up hv3d x7) x')) (eo_some (K := K) (b := pS :: [p]) (ed_int (i := 1))) eo_none) rfl) ?_) (kn6.up x7) (b6.ex x7) fun y d5 H8 x8 b8 hy o5 => ?_
      · rw [dps_len hds]
        show 4 < 10000000
        decide
      · rintro d e rfl hi'
        obtain ⟨j', z, rfl, hz, hm⟩ := intB_at (ds := ps) hi' (by omega)
        exact ⟨_, j', z, rfl, rfl, hz, hm⟩
      · rintro d e hm rfl
        obtain ⟨x, cs, r, rfl, hx, hx8⟩ := pok.2.2 d hm
        exact ⟨_, 0, _, rfl, rfl, atI0 _ _, x, rfl, hx, hx8⟩
      · rintro l ⟨d1, r1', rfl, ⟨x, rfl, hx, hx8⟩, rfl⟩
        exact ⟨by rw [hsl]; show 1 ≤ 16777216; decide, x, rfl, hx, hx8⟩
      · rintro d e ⟨x', rfl, hx, hx8⟩ rfl
        refine ⟨_, _, rfl, rfl, by rw [hsl]; show 3 ≤ 16777216; decide, ?_⟩
        have o' : ∀ e ∈ [x, .tuple ys, z], okD 7 e = true := ok_items (n := 7) o3
        exact ok_three (n := 8) (ok_text hx hx8) (ok_up (o' (.tuple ys) (by simp)) (by omega)) (ok_up (o' z (by simp)) (by omega))
      · refine hk _ _ ⟨rfl, fun c o z' => ?_, ?_, fun c hc' => ?_, ?_, vs ++ [y], [d1, d2, .tuple [x, .tuple ys, z], d4] ++ [d5], upd_same, ?_, by show 5 ≤ 5; decide, fun d hd => ?_⟩
        · have cS : c ≠ pS := fun e => by rw [e, hSH] at z'; cases z'
          have cp : c ≠ p := fun e => by rw [e, hp0] at z'; cases z'
          rw [upd_ne cS]
          exact x8 _ _ cp (x7 _ _ (xH6 _ _ z'))
        · obtain ⟨g', x', c', h1, r'⟩ := b8
          exact ⟨g', x', c', by rw [upd_ne (Ne.symm hpSa)]; exact h1, r'⟩
        · rcases List.mem_cons.mp hc' with rfl | hc'
          · rw [upd_same]; intro z'; cases z'
          · have e := List.mem_singleton.mp hc'
            subst e
            rw [upd_ne (Ne.symm hpSa)]
            exact b8.there
        · exact dp_ex put_ex _ _ (Dq.upB habS hv7 x8)
        · exact dps_ex put_ex _ _ (dps_app (DqAll.upB habS (DqAll.up hds x7) x8) (.cons hy .nil))
        · rcases List.mem_append.mp hd with hd | hd
          · exact all4 d hd
          · rw [List.mem_singleton.mp hd]
            exact o5
    · exact ⟨rfl, xH6.trans x7, (b6.ex x7).le (by omega), kn6.up x7, Dq.up hv6 x7, vs, _, x7 _ _ hS6, DqAll.up hds x7, by show 4 ≤ 5; decide, all4⟩
    rintro σ' H7 ⟨eσ, xH7, b7, kn7, hv7, vs', ds', hS7, hds7, hl5, hall⟩
    subst eσ
    refine ⟨.ref pS, rfl, pS, rfl, ⟨vs', .inl (.inl hS7)⟩, ?_⟩
    refine for_list (xs := vs') (Pv := fun k σ'' H'' => (∃ z6 z7, σ'' = [some (V.ref a), some (.int (0 + i)), some (.ref p), some v, some vk, some (.ref pS), z6, z7]) ∧ Ex H7 H'') ⟨⟨y6, y7, rfl⟩, Ex.refl H7⟩ (fun k σ'' H'' _ pp => .inl (.inl (pp.2 _ _ hS7))) ?_ ?_
    · intro k x σ'' H8 hx ⟨⟨z6, z7, eσ⟩, x8⟩
      subst eσ
      obtain ⟨d, hdk, dd⟩ := dps_at hds7 hx
      have okd : okD 30 d = true := ok_up (hall d (List.mem_of_getElem? hdk)) (by omega)
      have hv8 := Dq.up hv7 x8
      have dd8 : Dq K (pS :: [p]) H8 x d := Dq.up dd x8
      have kn8 := kn7.up x8
      refine ⟨v, rfl, x, rfl, pS :: [p], .tuple ps, d, kn8, .cons hv8 (.cons dd8 .nil), okp, okd, fun _ H9 x9 => ?_, fun hf => ?_⟩
      · have is := et_n (et_b (ed_isi (K := K) (b := pS :: [p]) (T := "bool") (.inr (.inl rfl)) (ed_var (σ := [some (V.ref a), some (.int (0 + i)), some (.ref p), some v, some vk, some (.ref pS), some x, some (.bl (hookD ps d))]) (H := H9) (i := 7) (d := .bool (hookD ps d)) rfl (.bl _))))
        have lw := ed_call (K := K) (b := pS :: [p]) (σ := [some (V.ref a), some (.int (0 + i)), some (.ref p), some v, some vk, some (.ref pS), some x, some (.bl (hookD ps d))]) (pre := WhPre) (f := F2 fun p d => hookD (itT p) d) (E := E0) (kn8.up x9) (ea_cons (ed_var (i := 3) rfl (Dq.up hv8 x9)) (ea_cons (ed_var (i := 6) rfl (Dq.up dd8 x9)) ea_nil)) ⟨rfl, fun p d h' => by cases h'; exact ⟨⟨ps, rfl, pok⟩, okd⟩⟩
        have ne := et_t (ed_ne (K := K) (b := pS :: [p]) (ed_var (σ := [some (V.ref a), some (.int (0 + i)), some (.ref p), some v, some vk, some (.ref pS), some x, some (.bl (hookD ps d))]) (H := H9) (i := 7) (d := .bool (hookD ps d)) rfl (.bl _)) lw (sh_bool _) (sh_bool _))
        rw [show PyData.eqv (.bool (hookD ps d)) (F2 (fun p d => hookD (itT p) d) [.tuple ps, d]) = true from eqv_bl _] at ne
        have both := et_or is fun _ => ne
        refine both H9 (Ex.refl H9) _ fun H10 x10 => ?_
        show ite (false = true) _ _
        rw [if_neg Bool.false_ne_true]
        exact ⟨⟨_, _, rfl⟩, (x8.trans x9).trans x10⟩
      · rw [pr] at hf
        cases hf
    · intro σ'' H8 ⟨⟨z6, z7, eσ⟩, x8⟩
      subst eσ
      have hv8 := Dq.up hv7 x8
      have kn8 := kn7.up x8
      have hp0' : ps[0]? = some ps[0] := List.getElem?_eq_getElem (by omega)
      have eg := eg_one (K := K) (b := pS :: [p]) (a := p) (n := 0) (E := E0) (i := 2) (u := 4) (P := fun z => okD 30 z = true ∧ progD z = false) (te := tLst (tCons (tC .non) (tCons (tOp (rIxT K) (tVar 3) (tC (.int 0))) (tCons (tCB (rListOf K) (tCons (tVar 3) tNil)) (tCons (tTupF tNil) tNil))))) (σ := [some (V.ref a), some (.int (0 + i)), some (.ref p), some v, some vk, some (.ref pS), z6, z7]) (H := H8) (ds := [.none, ps[0], .list ps, .tuple []]) habS rfl (fun H' x' kn' => ed_lst kn' (ea_cons ed_non (ea_cons (ed_ixT (ed_var (i := 3) rfl (Dq.upB habS hv8 x')) ed_int (atI_nat hp0')) (ea_cons (ed_listOf kn' (ed_var (i := 3) rfl (Dq.upB habS hv8 x'))) (ea_cons (ed_tup kn' ea_nil (by decide)) ea_nil)))) (by rw [hsl]; show 4 ≤ 16777216; decide)) rfl (by decide) (by decide) (fun z hz => by
        rcases List.mem_cons.mp hz with rfl | hz
        · exact ⟨rfl, rfl⟩
        rcases List.mem_cons.mp hz with rfl | hz
        · exact ⟨ok_up (ok_items (n := 29) okp _ (List.mem_of_getElem? hp0')) (by omega), part_none pok (List.mem_of_getElem? hp0')⟩
        rcases List.mem_cons.mp hz with rfl | hz
        · exact ⟨ok_lst (n := 29) (by omega) (ok_items (n := 29) okp), rfl⟩
        rw [List.mem_singleton.mp hz]
        exact ⟨rfl, rfl⟩)
      refine eg H8 (ExB.refl p H8) kn8 (b7.ex x8) _ fun vt dt H9 x9 b9 hvt ⟨o9, n9⟩ => ⟨pS :: [p], dt, x9.kn kn8 b9, .cons hvt .nil, o9, n9, fun H10 x10 => ⟨true, rfl, ?_⟩⟩
      show ite (false = true) _ _
      rw [if_neg Bool.false_ne_true]
      refine ⟨⟨_, _, _, _, _, _, _, rfl⟩, ?_⟩
      exact (ex_exb hp0 (xH7.trans x8) x9).trans x10
  · intro σ' H' ⟨⟨y1, y2, y3, y4, y5, y6, y7, eσ⟩, xH⟩
    subst eσ
    exact q H'
end
end Wr

set_option Elab.async false
set_option linter.all false
set_option maxRecDepth 100000
set_option maxHeartbeats 4000000
namespace Wr
open PySem PySem.Spec PyProof.Rows L2 Evl
theorem def_mk {K : PySem.W.Frag} {h : Heap} {mg : Str → Option Value} {x : Str} {st : Stmt} {ps : List Str} {f : Addr} {oc : Value} {od an : Option Addr} {osl : Array (Option Value)} {kV doc pm cdv ct : Value} (X : K.In h) (G : h.Ns mainGlobals mg)
    (a : PySem.W.nsIn K mainGlobals x = some (some (.ref f))) (l : K.lookup f = some ⟨oc, od, .func (PySem.W.fnOf x x (defArgs st) (defBody st) (defScope st) .none kV doc pm an cdv ct), osl⟩) (c : PySem.W.codeIn K cdv x = true) (k : PySem.W.keepIn K (.ref f) = true)
    (hb : ∀ (kV doc pm : Value) (an : Option Addr) (cdv ct : Value) (us : List Value), us.length = ps.length → bindArgs (PySem.W.fnOf x x (defArgs st) (defBody st) (defScope st) .none kV doc pm an cdv ct) ⟨us, []⟩ = pure (ps.zip us)) :
    Def K mg x st ps f (PySem.W.fnOf x x (defArgs st) (defBody st) (defScope st) .none kV doc pm an cdv ct) :=
  ⟨fun_mk (st := st) l c k, (fun_mk (st := st) l c k).binds hb, PySem.W.mg_of X G a⟩
theorem word_tup {K : PySem.W.Frag} {a : Addr} {n : Nat} {its : List Value} {xs : List V} (l : K.lookup a = some ⟨.type "tuple", none, .seq its.toArray n, #[]⟩) (hz : its.length ≤ 1000) (r : Vals xs its) : ∀ H, SqT K H a xs ∧ TN K H a := fun H =>
  ⟨.inr ⟨_, its.toArray, n, l, rfl, rfl, by rw [List.size_toArray]; exact Nat.le_trans hz (by decide), by simpa using r⟩, .inr ⟨_, l, rfl, rfl⟩⟩

theorem exm_self {K : PySem.W.Frag} {S : Addr} (h1 : PySem.W.subIn K (.ref S) (.type "BaseException") = some true) (h2 : PySem.W.isClsIn K S = true) (h3 : PySem.W.typeIn K (.ref S) = some (.type "type")) (h4 : PySem.W.subIn K (.ref S) (.ref S) = some true) :
    PySem.W.exmOne K (.ref S) (.ref S) = some true := by
  have e1 : (PySem.W.subIn K (.ref S) (.type "BaseException") == some true) = true := by rw [h1] <;> rfl
  have e2 : ((PySem.W.clsIn K S).isSome && PySem.W.typeIn K (.ref S) == some (.type "type")) = true := by
    have h2' : (PySem.W.clsIn K S).isSome = true := h2
    rw [h2', h3] <;> rfl
  have e3 : PySem.W.kitCls K (.ref S) (.ref S) = some true := by
    unfold PySem.W.kitCls
    exact (if_pos e2).trans h4
  unfold PySem.W.exmOne
  exact (if_pos e1).trans e3
theorem all_mk {l : PySem.W.OpenLaw} {w : World} {K : PySem.W.Frag} {h : Heap} {mg : Str → Option Value} {fa C f1 f2 f3 f4 f5 f6 f7 f8 f9 f10 f11 f12 f13 f14 f15 f16 f17 f18 f19 f20 f21 f22 f23 f24 f25 f26 f27 f28 aN aR aL aK : Addr} (X : K.In h) (G : h.Ns mainGlobals mg) (hfa : mg "law" = some (.ref fa))
    (aC : PySem.W.nsIn K mainGlobals "NoProgram" = some (some (.ref C))) (xC : PySem.W.excIn K C veTail "ValueError.__new__" = true)
    (kC : PySem.W.keepIn K (.ref C) = true) (eC : PySem.W.subIn K (.ref C) (.type "BaseException") = some true) (tC : PySem.W.typeIn K (.ref C) = some (.type "type")) (iC : PySem.W.isClsIn K C = true) (sC : PySem.W.subIn K (.ref C) (.ref C) = some true)
    {od1 an1 : Option Addr} {sl1 : Array (Option Value)} {oc1 kV1 dc1 pm1 cd1 ct1 : Value}
    (a1 : PySem.W.nsIn K mainGlobals "is_whole" = some (some (.ref f1))) (l1 : K.lookup f1 = some ⟨oc1, od1, .func (PySem.W.fnOf "is_whole" "is_whole" (defArgs s_is_whole) (defBody s_is_whole) (defScope s_is_whole) .none kV1 dc1 pm1 an1 cd1 ct1), sl1⟩) (c1 : PySem.W.codeIn K cd1 "is_whole" = true) (k1 : PySem.W.keepIn K (.ref f1) = true)
    {od2 an2 : Option Addr} {sl2 : Array (Option Value)} {oc2 kV2 dc2 pm2 cd2 ct2 : Value}
    (a2 : PySem.W.nsIn K mainGlobals "is_worth" = some (some (.ref f2))) (l2 : K.lookup f2 = some ⟨oc2, od2, .func (PySem.W.fnOf "is_worth" "is_worth" (defArgs s_is_worth) (defBody s_is_worth) (defScope s_is_worth) .none kV2 dc2 pm2 an2 cd2 ct2), sl2⟩) (c2 : PySem.W.codeIn K cd2 "is_worth" = true) (k2 : PySem.W.keepIn K (.ref f2) = true)
    {od3 an3 : Option Addr} {sl3 : Array (Option Value)} {oc3 kV3 dc3 pm3 cd3 ct3 : Value}
    (a3 : PySem.W.nsIn K mainGlobals "is_index" = some (some (.ref f3))) (l3 : K.lookup f3 = some ⟨oc3, od3, .func (PySem.W.fnOf "is_index" "is_index" (defArgs s_is_index) (defBody s_is_index) (defScope s_is_index) .none kV3 dc3 pm3 an3 cd3 ct3), sl3⟩) (c3 : PySem.W.codeIn K cd3 "is_index" = true) (k3 : PySem.W.keepIn K (.ref f3) = true)
    {od4 an4 : Option Addr} {sl4 : Array (Option Value)} {oc4 kV4 dc4 pm4 cd4 ct4 : Value}
    (a4 : PySem.W.nsIn K mainGlobals "is_name" = some (some (.ref f4))) (l4 : K.lookup f4 = some ⟨oc4, od4, .func (PySem.W.fnOf "is_name" "is_name" (defArgs s_is_name) (defBody s_is_name) (defScope s_is_name) .none kV4 dc4 pm4 an4 cd4 ct4), sl4⟩) (c4 : PySem.W.codeIn K cd4 "is_name" = true) (k4 : PySem.W.keepIn K (.ref f4) = true)
    {od5 an5 : Option Addr} {sl5 : Array (Option Value)} {oc5 kV5 dc5 pm5 cd5 ct5 : Value}
    (a5 : PySem.W.nsIn K mainGlobals "are_names" = some (some (.ref f5))) (l5 : K.lookup f5 = some ⟨oc5, od5, .func (PySem.W.fnOf "are_names" "are_names" (defArgs s_are_names) (defBody s_are_names) (defScope s_are_names) .none kV5 dc5 pm5 an5 cd5 ct5), sl5⟩) (c5 : PySem.W.codeIn K cd5 "are_names" = true) (k5 : PySem.W.keepIn K (.ref f5) = true)
    {od6 an6 : Option Addr} {sl6 : Array (Option Value)} {oc6 kV6 dc6 pm6 cd6 ct6 : Value}
    (a6 : PySem.W.nsIn K mainGlobals "are_unlike" = some (some (.ref f6))) (l6 : K.lookup f6 = some ⟨oc6, od6, .func (PySem.W.fnOf "are_unlike" "are_unlike" (defArgs s_are_unlike) (defBody s_are_unlike) (defScope s_are_unlike) .none kV6 dc6 pm6 an6 cd6 ct6), sl6⟩) (c6 : PySem.W.codeIn K cd6 "are_unlike" = true) (k6 : PySem.W.keepIn K (.ref f6) = true)
    {od7 an7 : Option Addr} {sl7 : Array (Option Value)} {oc7 kV7 dc7 pm7 cd7 ct7 : Value}
    (a7 : PySem.W.nsIn K mainGlobals "is_headed" = some (some (.ref f7))) (l7 : K.lookup f7 = some ⟨oc7, od7, .func (PySem.W.fnOf "is_headed" "is_headed" (defArgs s_is_headed) (defBody s_is_headed) (defScope s_is_headed) .none kV7 dc7 pm7 an7 cd7 ct7), sl7⟩) (c7 : PySem.W.codeIn K cd7 "is_headed" = true) (k7 : PySem.W.keepIn K (.ref f7) = true)
    {od8 an8 : Option Addr} {sl8 : Array (Option Value)} {oc8 kV8 dc8 pm8 cd8 ct8 : Value}
    (a8 : PySem.W.nsIn K mainGlobals "are_headed" = some (some (.ref f8))) (l8 : K.lookup f8 = some ⟨oc8, od8, .func (PySem.W.fnOf "are_headed" "are_headed" (defArgs s_are_headed) (defBody s_are_headed) (defScope s_are_headed) .none kV8 dc8 pm8 an8 cd8 ct8), sl8⟩) (c8 : PySem.W.codeIn K cd8 "are_headed" = true) (k8 : PySem.W.keepIn K (.ref f8) = true)
    {od9 an9 : Option Addr} {sl9 : Array (Option Value)} {oc9 kV9 dc9 pm9 cd9 ct9 : Value}
    (a9 : PySem.W.nsIn K mainGlobals "is_program" = some (some (.ref f9))) (l9 : K.lookup f9 = some ⟨oc9, od9, .func (PySem.W.fnOf "is_program" "is_program" (defArgs s_is_program) (defBody s_is_program) (defScope s_is_program) .none kV9 dc9 pm9 an9 cd9 ct9), sl9⟩) (c9 : PySem.W.codeIn K cd9 "is_program" = true) (k9 : PySem.W.keepIn K (.ref f9) = true)
    {od10 an10 : Option Addr} {sl10 : Array (Option Value)} {oc10 kV10 dc10 pm10 cd10 ct10 : Value}
    (a10 : PySem.W.nsIn K mainGlobals "are_rows" = some (some (.ref f10))) (l10 : K.lookup f10 = some ⟨oc10, od10, .func (PySem.W.fnOf "are_rows" "are_rows" (defArgs s_are_rows) (defBody s_are_rows) (defScope s_are_rows) .none kV10 dc10 pm10 an10 cd10 ct10), sl10⟩) (c10 : PySem.W.codeIn K cd10 "are_rows" = true) (k10 : PySem.W.keepIn K (.ref f10) = true)
    {od11 an11 : Option Addr} {sl11 : Array (Option Value)} {oc11 kV11 dc11 pm11 cd11 ct11 : Value}
    (a11 : PySem.W.nsIn K mainGlobals "is_row" = some (some (.ref f11))) (l11 : K.lookup f11 = some ⟨oc11, od11, .func (PySem.W.fnOf "is_row" "is_row" (defArgs s_is_row) (defBody s_is_row) (defScope s_is_row) .none kV11 dc11 pm11 an11 cd11 ct11), sl11⟩) (c11 : PySem.W.codeIn K cd11 "is_row" = true) (k11 : PySem.W.keepIn K (.ref f11) = true)
    {od12 an12 : Option Addr} {sl12 : Array (Option Value)} {oc12 kV12 dc12 pm12 cd12 ct12 : Value}
    (a12 : PySem.W.nsIn K mainGlobals "check_program" = some (some (.ref f12))) (l12 : K.lookup f12 = some ⟨oc12, od12, .func (PySem.W.fnOf "check_program" "check_program" (defArgs s_check) (defBody s_check) (defScope s_check) .none kV12 dc12 pm12 an12 cd12 ct12), sl12⟩) (c12 : PySem.W.codeIn K cd12 "check_program" = true) (k12 : PySem.W.keepIn K (.ref f12) = true)
    {od13 an13 : Option Addr} {sl13 : Array (Option Value)} {oc13 kV13 dc13 pm13 cd13 ct13 : Value}
    (a13 : PySem.W.nsIn K mainGlobals "is_hook" = some (some (.ref f13))) (l13 : K.lookup f13 = some ⟨oc13, od13, .func (PySem.W.fnOf "is_hook" "is_hook" (defArgs s_hook) (defBody s_hook) (defScope s_hook) .none kV13 dc13 pm13 an13 cd13 ct13), sl13⟩) (c13 : PySem.W.codeIn K cd13 "is_hook" = true) (k13 : PySem.W.keepIn K (.ref f13) = true)
    {od14 an14 : Option Addr} {sl14 : Array (Option Value)} {oc14 kV14 dc14 pm14 cd14 ct14 : Value}
    (a14 : PySem.W.nsIn K mainGlobals "can_hook" = some (some (.ref f14))) (l14 : K.lookup f14 = some ⟨oc14, od14, .func (PySem.W.fnOf "can_hook" "can_hook" (defArgs s_can) (defBody s_can) (defScope s_can) .none kV14 dc14 pm14 an14 cd14 ct14), sl14⟩) (c14 : PySem.W.codeIn K cd14 "can_hook" = true) (k14 : PySem.W.keepIn K (.ref f14) = true)
    {od15 an15 : Option Addr} {sl15 : Array (Option Value)} {oc15 kV15 dc15 pm15 cd15 ct15 : Value}
    (a15 : PySem.W.nsIn K mainGlobals "are_kinds" = some (some (.ref f15))) (l15 : K.lookup f15 = some ⟨oc15, od15, .func (PySem.W.fnOf "are_kinds" "are_kinds" (defArgs s_kinds) (defBody s_kinds) (defScope s_kinds) .none kV15 dc15 pm15 an15 cd15 ct15), sl15⟩) (c15 : PySem.W.codeIn K cd15 "are_kinds" = true) (k15 : PySem.W.keepIn K (.ref f15) = true)
    {od16 an16 : Option Addr} {sl16 : Array (Option Value)} {oc16 kV16 dc16 pm16 cd16 ct16 : Value}
    (a16 : PySem.W.nsIn K mainGlobals "is_where" = some (some (.ref f16))) (l16 : K.lookup f16 = some ⟨oc16, od16, .func (PySem.W.fnOf "is_where" "is_where" (defArgs s_where) (defBody s_where) (defScope s_where) .none kV16 dc16 pm16 an16 cd16 ct16), sl16⟩) (c16 : PySem.W.codeIn K cd16 "is_where" = true) (k16 : PySem.W.keepIn K (.ref f16) = true)
    {od17 an17 : Option Addr} {sl17 : Array (Option Value)} {oc17 kV17 dc17 pm17 cd17 ct17 : Value}
    (a17 : PySem.W.nsIn K mainGlobals "_law_bag" = some (some (.ref f17))) (l17 : K.lookup f17 = some ⟨oc17, od17, .func (PySem.W.fnOf "_law_bag" "_law_bag" (defArgs s_bag) (defBody s_bag) (defScope s_bag) .none kV17 dc17 pm17 an17 cd17 ct17), sl17⟩) (c17 : PySem.W.codeIn K cd17 "_law_bag" = true) (k17 : PySem.W.keepIn K (.ref f17) = true)
    {od18 an18 : Option Addr} {sl18 : Array (Option Value)} {oc18 kV18 dc18 pm18 cd18 ct18 : Value}
    (a18 : PySem.W.nsIn K mainGlobals "_law_take" = some (some (.ref f18))) (l18 : K.lookup f18 = some ⟨oc18, od18, .func (PySem.W.fnOf "_law_take" "_law_take" (defArgs s_take) (defBody s_take) (defScope s_take) .none kV18 dc18 pm18 an18 cd18 ct18), sl18⟩) (c18 : PySem.W.codeIn K cd18 "_law_take" = true) (k18 : PySem.W.keepIn K (.ref f18) = true)
    {od19 an19 : Option Addr} {sl19 : Array (Option Value)} {oc19 kV19 dc19 pm19 cd19 ct19 : Value}
    (a19 : PySem.W.nsIn K mainGlobals "_law_program" = some (some (.ref f19))) (l19 : K.lookup f19 = some ⟨oc19, od19, .func (PySem.W.fnOf "_law_program" "_law_program" (defArgs s_prg) (defBody s_prg) (defScope s_prg) .none kV19 dc19 pm19 an19 cd19 ct19), sl19⟩) (c19 : PySem.W.codeIn K cd19 "_law_program" = true) (k19 : PySem.W.keepIn K (.ref f19) = true)
    {od20 an20 : Option Addr} {sl20 : Array (Option Value)} {oc20 kV20 dc20 pm20 cd20 ct20 : Value}
    (a20 : PySem.W.nsIn K mainGlobals "_law_kinds" = some (some (.ref f20))) (l20 : K.lookup f20 = some ⟨oc20, od20, .func (PySem.W.fnOf "_law_kinds" "_law_kinds" (defArgs s_kd) (defBody s_kd) (defScope s_kd) .none kV20 dc20 pm20 an20 cd20 ct20), sl20⟩) (c20 : PySem.W.codeIn K cd20 "_law_kinds" = true) (k20 : PySem.W.keepIn K (.ref f20) = true)
    {od21 an21 : Option Addr} {sl21 : Array (Option Value)} {oc21 kV21 dc21 pm21 cd21 ct21 : Value}
    (a21 : PySem.W.nsIn K mainGlobals "_law_where" = some (some (.ref f21))) (l21 : K.lookup f21 = some ⟨oc21, od21, .func (PySem.W.fnOf "_law_where" "_law_where" (defArgs s_lw) (defBody s_lw) (defScope s_lw) .none kV21 dc21 pm21 an21 cd21 ct21), sl21⟩) (c21 : PySem.W.codeIn K cd21 "_law_where" = true) (k21 : PySem.W.keepIn K (.ref f21) = true)
    {od22 an22 : Option Addr} {sl22 : Array (Option Value)} {oc22 kV22 dc22 pm22 cd22 ct22 : Value}
    (a22 : PySem.W.nsIn K mainGlobals "_law_odd" = some (some (.ref f22))) (l22 : K.lookup f22 = some ⟨oc22, od22, .func (PySem.W.fnOf "_law_odd" "_law_odd" (defArgs s_odd) (defBody s_odd) (defScope s_odd) .none kV22 dc22 pm22 an22 cd22 ct22), sl22⟩) (c22 : PySem.W.codeIn K cd22 "_law_odd" = true) (k22 : PySem.W.keepIn K (.ref f22) = true)
    {od23 an23 : Option Addr} {sl23 : Array (Option Value)} {oc23 kV23 dc23 pm23 cd23 ct23 : Value}
    (a23 : PySem.W.nsIn K mainGlobals "_law_otherwise" = some (some (.ref f23))) (l23 : K.lookup f23 = some ⟨oc23, od23, .func (PySem.W.fnOf "_law_otherwise" "_law_otherwise" (defArgs s_ot) (defBody s_ot) (defScope s_ot) .none kV23 dc23 pm23 an23 cd23 ct23), sl23⟩) (c23 : PySem.W.codeIn K cd23 "_law_otherwise" = true) (k23 : PySem.W.keepIn K (.ref f23) = true)
    {od24 an24 : Option Addr} {sl24 : Array (Option Value)} {oc24 kV24 dc24 pm24 cd24 ct24 : Value}
    (a24 : PySem.W.nsIn K mainGlobals "_law_whole" = some (some (.ref f24))) (l24 : K.lookup f24 = some ⟨oc24, od24, .func (PySem.W.fnOf "_law_whole" "_law_whole" (defArgs s_lwhole) (defBody s_lwhole) (defScope s_lwhole) .none kV24 dc24 pm24 an24 cd24 ct24), sl24⟩) (c24 : PySem.W.codeIn K cd24 "_law_whole" = true) (k24 : PySem.W.keepIn K (.ref f24) = true)
    {od25 an25 : Option Addr} {sl25 : Array (Option Value)} {oc25 kV25 dc25 pm25 cd25 ct25 : Value}
    (a25 : PySem.W.nsIn K mainGlobals "_law_is_where" = some (some (.ref f25))) (l25 : K.lookup f25 = some ⟨oc25, od25, .func (PySem.W.fnOf "_law_is_where" "_law_is_where" (defArgs s_lisw) (defBody s_lisw) (defScope s_lisw) .none kV25 dc25 pm25 an25 cd25 ct25), sl25⟩) (c25 : PySem.W.codeIn K cd25 "_law_is_where" = true) (k25 : PySem.W.keepIn K (.ref f25) = true)
    {od26 an26 : Option Addr} {sl26 : Array (Option Value)} {oc26 kV26 dc26 pm26 cd26 ct26 : Value}
    (a26 : PySem.W.nsIn K mainGlobals "_law_is_hook" = some (some (.ref f26))) (l26 : K.lookup f26 = some ⟨oc26, od26, .func (PySem.W.fnOf "_law_is_hook" "_law_is_hook" (defArgs s_lish) (defBody s_lish) (defScope s_lish) .none kV26 dc26 pm26 an26 cd26 ct26), sl26⟩) (c26 : PySem.W.codeIn K cd26 "_law_is_hook" = true) (k26 : PySem.W.keepIn K (.ref f26) = true)
    {od27 an27 : Option Addr} {sl27 : Array (Option Value)} {oc27 kV27 dc27 pm27 cd27 ct27 : Value}
    (a27 : PySem.W.nsIn K mainGlobals "_law_refused" = some (some (.ref f27))) (l27 : K.lookup f27 = some ⟨oc27, od27, .func (PySem.W.fnOf "_law_refused" "_law_refused" (defArgs s_rf) (defBody s_rf) (defScope s_rf) .none kV27 dc27 pm27 an27 cd27 ct27), sl27⟩) (c27 : PySem.W.codeIn K cd27 "_law_refused" = true) (k27 : PySem.W.keepIn K (.ref f27) = true)
    {od28 an28 : Option Addr} {sl28 : Array (Option Value)} {oc28 kV28 dc28 pm28 cd28 ct28 : Value}
    (a28 : PySem.W.nsIn K mainGlobals "law" = some (some (.ref f28))) (l28 : K.lookup f28 = some ⟨oc28, od28, .func (PySem.W.fnOf "law" "law" (defArgs s_law) (defBody s_law) (defScope s_law) .none kV28 dc28 pm28 an28 cd28 ct28), sl28⟩) (c28 : PySem.W.codeIn K cd28 "law" = true) (k28 : PySem.W.keepIn K (.ref f28) = true)
    {t1 : Tok} (m1 : PySem.W.nsIn K mainGlobals "MOST_WORTH" = some (some (.int 1000000000000 t1)))
    {t2 : Tok} (m2 : PySem.W.nsIn K mainGlobals "MOST_LETTERS" = some (some (.int 8 t2)))
    {t3 : Tok} (m3 : PySem.W.nsIn K mainGlobals "MOST_NAMES" = some (some (.int 3 t3)))
    {t4 : Tok} (m4 : PySem.W.nsIn K mainGlobals "MOST_PART_ROWS" = some (some (.int 60 t4)))
    {t5 : Tok} (m5 : PySem.W.nsIn K mainGlobals "MOST_PARTS" = some (some (.int 8 t5)))
    {t6 : Tok} (m6 : PySem.W.nsIn K mainGlobals "HOOK_NAMES" = some (some (.int 3 t6)))
    {tN0 tN1 tN2 tN3 : Tok} {nN : Nat} (wN : PySem.W.nsIn K mainGlobals "NAME_WORDS" = some (some (.ref aN))) (qN : K.lookup aN = some ⟨.type "tuple", none, .seq (#[.str "get" tN0, .str "set" tN1, .str "look" tN2, .str "change" tN3]) nN, #[]⟩)
    {tR0 tR1 tR2 : Tok} {nR : Nat} (wR : PySem.W.nsIn K mainGlobals "ROW_WORDS" = some (some (.ref aR))) (qR : K.lookup aR = some ⟨.type "tuple", none, .seq (#[.str "go" tR0, .str "if" tR1, .str "try" tR2]) nR, #[]⟩)
    {tL0 tL1 tL2 tL3 tL4 tL5 tL6 tL7 tL8 tL9 tL10 tL11 tL12 tL13 tL14 : Tok} {nL : Nat} (wL : PySem.W.nsIn K mainGlobals "LONE_WORDS" = some (some (.ref aL))) (qL : K.lookup aL = some ⟨.type "tuple", none, .seq (#[.str "add" tL0, .str "less" tL1, .str "times" tL2, .str "over" tL3, .str "same" tL4, .str "below" tL5, .str "twin" tL6, .str "swap" tL7, .str "away" tL8, .str "say" tL9, .str "back" tL10, .str "throw" tL11, .str "done" tL12, .str "lead" tL13, .str "turn" tL14]) nL, #[]⟩)
    {tK0 tK1 tK2 tK3 tK4 : Tok} {nK : Nat} (wK : PySem.W.nsIn K mainGlobals "KINDS" = some (some (.ref aK))) (qK : K.lookup aK = some ⟨.type "tuple", none, .seq (#[.str "call" tK0, .str "row" tK1, .str "back" tK2, .str "fault" tK3, .str "caught" tK4]) nK, #[]⟩)
    (z1 : PySem.W.nsIn K mainGlobals "isinstance" = some none)
    (z2 : PySem.W.nsIn K mainGlobals "len" = some none)
    (z3 : PySem.W.nsIn K mainGlobals "all" = some none)
    (z4 : PySem.W.nsIn K mainGlobals "enumerate" = some none)
    (z5 : PySem.W.nsIn K mainGlobals "set" = some none)
    (z6 : PySem.W.nsIn K mainGlobals "int" = some none)
    (z7 : PySem.W.nsIn K mainGlobals "bool" = some none)
    (z8 : PySem.W.nsIn K mainGlobals "str" = some none)
    (z9 : PySem.W.nsIn K mainGlobals "tuple" = some none)
    (z10 : PySem.W.nsIn K mainGlobals "list" = some none)
    (z11 : PySem.W.nsIn K mainGlobals "range" = some none)
    (z12 : PySem.W.nsIn K mainGlobals "abs" = some none)
    (z13 : PySem.W.nsIn K mainGlobals "max" = some none)
    (z14 : PySem.W.nsIn K mainGlobals "min" = some none)
    (z15 : PySem.W.nsIn K mainGlobals "repr" = some none)
    : ∃ fd : FuncData, (∀ (s : Shared) (v : Value), BindsTo s fd ⟨[v], []⟩ [("_law_script", v)]) ∧ ∀ base : Heap, K.In base → base.Ns mainGlobals mg → FnG l.prog w K mg base 9 fa fd ["_law_script"] (spLaw K) := by
  have e := hfa.symm.trans (PySem.W.mg_of X G a28)
  cases e
  have D1 := def_mk (st := s_is_whole) (ps := ["thing"]) X G a1 l1 c1 k1 fun _ _ _ _ _ _ us hl => match us, hl with | [_], _ => rfl
  have D2 := def_mk (st := s_is_worth) (ps := ["thing"]) X G a2 l2 c2 k2 fun _ _ _ _ _ _ us hl => match us, hl with | [_], _ => rfl
  have D3 := def_mk (st := s_is_index) (ps := ["thing", "many"]) X G a3 l3 c3 k3 fun _ _ _ _ _ _ us hl => match us, hl with | [_, _], _ => rfl
  have D4 := def_mk (st := s_is_name) (ps := ["thing"]) X G a4 l4 c4 k4 fun _ _ _ _ _ _ us hl => match us, hl with | [_], _ => rfl
  have D5 := def_mk (st := s_are_names) (ps := ["thing"]) X G a5 l5 c5 k5 fun _ _ _ _ _ _ us hl => match us, hl with | [_], _ => rfl
  have D6 := def_mk (st := s_are_unlike) (ps := ["names"]) X G a6 l6 c6 k6 fun _ _ _ _ _ _ us hl => match us, hl with | [_], _ => rfl
  have D7 := def_mk (st := s_is_headed) (ps := ["thing"]) X G a7 l7 c7 k7 fun _ _ _ _ _ _ us hl => match us, hl with | [_], _ => rfl
  have D8 := def_mk (st := s_are_headed) (ps := ["thing", "most"]) X G a8 l8 c8 k8 fun _ _ _ _ _ _ us hl => match us, hl with | [_, _], _ => rfl
  have D9 := def_mk (st := s_is_program) (ps := ["thing"]) X G a9 l9 c9 k9 fun _ _ _ _ _ _ us hl => match us, hl with | [_], _ => rfl
  have D10 := def_mk (st := s_are_rows) (ps := ["thing", "called"]) X G a10 l10 c10 k10 fun _ _ _ _ _ _ us hl => match us, hl with | [_, _], _ => rfl
  have D11 := def_mk (st := s_is_row) (ps := ["thing", "at", "many", "called"]) X G a11 l11 c11 k11 fun _ _ _ _ _ _ us hl => match us, hl with | [_, _, _, _], _ => rfl
  have D12 := def_mk (st := s_check) (ps := ["thing"]) X G a12 l12 c12 k12 fun _ _ _ _ _ _ us hl => match us, hl with | [_], _ => rfl
  have D13 := def_mk (st := s_hook) (ps := ["program", "thing"]) X G a13 l13 c13 k13 fun _ _ _ _ _ _ us hl => match us, hl with | [_, _], _ => rfl
  have D14 := def_mk (st := s_can) (ps := ["program", "thing"]) X G a14 l14 c14 k14 fun _ _ _ _ _ _ us hl => match us, hl with | [_, _], _ => rfl
  have D15 := def_mk (st := s_kinds) (ps := ["thing"]) X G a15 l15 c15 k15 fun _ _ _ _ _ _ us hl => match us, hl with | [_], _ => rfl
  have D16 := def_mk (st := s_where) (ps := ["program", "thing"]) X G a16 l16 c16 k16 fun _ _ _ _ _ _ us hl => match us, hl with | [_, _], _ => rfl
  have D17 := def_mk (st := s_bag) (ps := ["_law_script", "_law_at"]) X G a17 l17 c17 k17 fun _ _ _ _ _ _ us hl => match us, hl with | [_, _], _ => rfl
  have D18 := def_mk (st := s_take) (ps := ["_law_bag_here", "_law_many"]) X G a18 l18 c18 k18 fun _ _ _ _ _ _ us hl => match us, hl with | [_, _], _ => rfl
  have D19 := def_mk (st := s_prg) (ps := ["_law_bag_here"]) X G a19 l19 c19 k19 fun _ _ _ _ _ _ us hl => match us, hl with | [_], _ => rfl
  have D20 := def_mk (st := s_kd) (ps := ["_law_bag_here"]) X G a20 l20 c20 k20 fun _ _ _ _ _ _ us hl => match us, hl with | [_], _ => rfl
  have D21 := def_mk (st := s_lw) (ps := ["_law_bag_here", "_law_program_here"]) X G a21 l21 c21 k21 fun _ _ _ _ _ _ us hl => match us, hl with | [_, _], _ => rfl
  have D22 := def_mk (st := s_odd) (ps := ["_law_bag_here"]) X G a22 l22 c22 k22 fun _ _ _ _ _ _ us hl => match us, hl with | [_], _ => rfl
  have D23 := def_mk (st := s_ot) (ps := ["_law_bag_here", "_law_hook"]) X G a23 l23 c23 k23 fun _ _ _ _ _ _ us hl => match us, hl with | [_, _], _ => rfl
  have D24 := def_mk (st := s_lwhole) (ps := ["_law_thing"]) X G a24 l24 c24 k24 fun _ _ _ _ _ _ us hl => match us, hl with | [_], _ => rfl
  have D25 := def_mk (st := s_lisw) (ps := ["_law_program_here", "_law_thing"]) X G a25 l25 c25 k25 fun _ _ _ _ _ _ us hl => match us, hl with | [_, _], _ => rfl
  have D26 := def_mk (st := s_lish) (ps := ["_law_program_here", "_law_thing"]) X G a26 l26 c26 k26 fun _ _ _ _ _ _ us hl => match us, hl with | [_, _], _ => rfl
  have D27 := def_mk (st := s_rf) (ps := ["_law_thing"]) X G a27 l27 c27 k27 fun _ _ _ _ _ _ us hl => match us, hl with | [_], _ => rfl
  have D28 := def_mk (st := s_law) (ps := ["_law_script"]) X G a28 l28 c28 k28 fun _ _ _ _ _ _ us hl => match us, hl with | [_], _ => rfl
  have B : Blt mg := ⟨PySem.W.mg_none_of X G z1, PySem.W.mg_none_of X G z2, PySem.W.mg_none_of X G z3, PySem.W.mg_none_of X G z4, PySem.W.mg_none_of X G z5, PySem.W.mg_none_of X G z6, PySem.W.mg_none_of X G z7, PySem.W.mg_none_of X G z8, PySem.W.mg_none_of X G z9, PySem.W.mg_none_of X G z10, PySem.W.mg_none_of X G z11⟩
  have B2 : Blt2 mg := ⟨PySem.W.mg_none_of X G z12, PySem.W.mg_none_of X G z13, PySem.W.mg_none_of X G z14, PySem.W.mg_none_of X G z15⟩
  have Ws : Words K mg aN aR aL := ⟨PySem.W.mg_of X G wN, PySem.W.mg_of X G wR, PySem.W.mg_of X G wL, word_tup (its := [_, _, _, _]) qN (Nat.le_of_ble_eq_true rfl) (.cons ⟨_, rfl⟩ (.cons ⟨_, rfl⟩ (.cons ⟨_, rfl⟩ (.cons ⟨_, rfl⟩ .nil)))), word_tup (its := [_, _, _]) qR (Nat.le_of_ble_eq_true rfl) (.cons ⟨_, rfl⟩ (.cons ⟨_, rfl⟩ (.cons ⟨_, rfl⟩ .nil))), word_tup (its := [_, _, _, _, _, _, _, _, _, _, _, _, _, _, _]) qL (Nat.le_of_ble_eq_true rfl) (.cons ⟨_, rfl⟩ (.cons ⟨_, rfl⟩ (.cons ⟨_, rfl⟩ (.cons ⟨_, rfl⟩ (.cons ⟨_, rfl⟩ (.cons ⟨_, rfl⟩ (.cons ⟨_, rfl⟩ (.cons ⟨_, rfl⟩ (.cons ⟨_, rfl⟩ (.cons ⟨_, rfl⟩ (.cons ⟨_, rfl⟩ (.cons ⟨_, rfl⟩ (.cons ⟨_, rfl⟩ (.cons ⟨_, rfl⟩ (.cons ⟨_, rfl⟩ .nil)))))))))))))))⟩
  have kK : ∀ H, SqT K H aK (kindW.map V.str) ∧ TN K H aK := word_tup (its := [_, _, _, _, _]) qK (Nat.le_of_ble_eq_true rfl) (.cons ⟨_, rfl⟩ (.cons ⟨_, rfl⟩ (.cons ⟨_, rfl⟩ (.cons ⟨_, rfl⟩ (.cons ⟨_, rfl⟩ .nil)))))
  have mK := PySem.W.mg_of X G wK
  have M1 := PySem.W.mg_of X G m1
  have M2 := PySem.W.mg_of X G m2
  have M3 := PySem.W.mg_of X G m3
  have M4 := PySem.W.mg_of X G m4
  have M5 := PySem.W.mg_of X G m5
  have M6 := PySem.W.mg_of X G m6
  have T : NgC K mg C := ⟨PySem.W.mg_of X G aC, xC, kC, eC, tC⟩
  have te := exm_self eC iC tC sC
  refine ⟨PySem.W.fnOf "law" "law" (defArgs s_law) (defBody s_law) (defScope s_law) .none kV28 dc28 pm28 an28 cd28 ct28, fun s v => .of_eq rfl, fun base _ _ => ?_⟩
  have g1 := ok_is_name (P := l.prog) (w := w) (base := base) D4 B M2
  have g2 := ok_are_names (P := l.prog) (w := w) (base := base) D5 D4 D6 B M2 M3
  have g3 := ok_is_headed D7 D4 g1 D5 g2 B
  have g4 := ok_are_headed D8 D7 g3 D6 B
  have g5 := ok_is_worth (P := l.prog) (w := w) (base := base) D2 D1 B M1
  have g6 := ok_is_index (P := l.prog) (w := w) (base := base) D3 D1 B
  have g7 := ok_is_row D11 D2 g5 D4 g1 D3 g6 B Ws
  have g8 := ok_are_rows D10 D11 g7 B M4
  have g9 := ok_is_program D9 D8 g4 D10 g8 B M5
  have gck := ok_check T D12 D9 g9
  have gki := ok_kinds (P := l.prog) (w := w) (base := base) D15 D6 B mK kK
  have gwh := ok_where D16 D3 g6 B M4
  have gcn := ok_can D14 D15 gki D16 gwh B M6
  have ghk := ok_hook D13 D12 gck D14 gcn
  have glw := ok_lisw (P := l.prog) (w := w) (base := base) D25 D24 B
  have glh := ok_lish D26 D25 glw B
  have grf := ok_rf D27 D13 ghk T te
  exact ok_law D28 B B2 D17 D19 D18 D20 D21 D22 D23 D13 ghk D26 glh D27 grf
theorem walkG {l : PySem.W.OpenLaw} {q : Program} {loose : List Str} {XP : (Str → Option Value) → Heap → Prop} {YP : World → Heap → Prop} {d : DefRec} {K : Params → PySem.W.Frag} (hn : l.most = some 63) (hdf : d.params.defaults = [])
    (hY : ∀ (w : World) (h : Heap), YP w h → (K w.params).In h)
    (F : ∀ (w : World) (mg : Str → Option Value) (fa : Addr) (h : Heap), (K w.params).In h → h.Ns mainGlobals mg → mg d.name = some (.ref fa) →
      ∃ fd : FuncData, (∀ (s : Shared) (u : Value), BindsTo s fd ⟨[u], []⟩ [("_law_script", u)]) ∧ ∀ base : Heap, (K w.params).In base → base.Ns mainGlobals mg → FnG l.prog w (K w.params) mg base 9 fa fd ["_law_script"] (spLaw (K w.params))) :
    PySem.W.WalkO q loose XP YP l.row.toRowW d [] (fun f vs => PySem.call f vs) :=
  Att.attach_call hn hdf fun w s₀ s₁ mg mb fa o pm cd doc a vs ns G Y ho hd hcd hmg hobj hints hlen hge => by
    have KX := hY w _ Y
    obtain ⟨fd, hb, hF⟩ := F w mg fa _ KX G.T.g hmg
    exact law_goG KX G.T.g G.T.b G.T.builtins G.T.nolimit hge hobj hints (Nat.le_trans hlen (by decide)) ⟨rfl, by decide, by decide⟩ hF hb fun H hS => ⟨a, ns, rfl, hS, by omega, fun _ => rfl⟩
end Wr

set_option Elab.async false
set_option linter.all false
open PySem PySem.W PyProof.Rows
set_option maxRecDepth 100000 in
set_option maxHeartbeats 0 in
theorem PySem.Challenge.cw_watchedrun_k41_hooks_known_holds : PySem.Challenge.rw_watchedrun_k41_hooks_known.Holds := by
  w_on; o_law; k_head; (case hw => w_witness2)
  k_fill
  refine Wr.walkG (l := PySem.Challenge.rw_watchedrun_k41_hooks_known) rfl rfl (fun w h Y => PySem.W.kIn_of Y) ?F
  case F =>
    intro w mg fa h KX G hmg
    refine' Wr.all_mk KX G hmg ?aC ?xC ?kC ?eC ?tC ?iC ?sC ?a1 ?l1 ?c1 ?k1 ?a2 ?l2 ?c2 ?k2 ?a3 ?l3 ?c3 ?k3 ?a4 ?l4 ?c4 ?k4 ?a5 ?l5 ?c5 ?k5 ?a6 ?l6 ?c6 ?k6 ?a7 ?l7 ?c7 ?k7 ?a8 ?l8 ?c8 ?k8 ?a9 ?l9 ?c9 ?k9 ?a10 ?l10 ?c10 ?k10 ?a11 ?l11 ?c11 ?k11 ?a12 ?l12 ?c12 ?k12 ?a13 ?l13 ?c13 ?k13 ?a14 ?l14 ?c14 ?k14 ?a15 ?l15 ?c15 ?k15 ?a16 ?l16 ?c16 ?k16 ?a17 ?l17 ?c17 ?k17 ?a18 ?l18 ?c18 ?k18 ?a19 ?l19 ?c19 ?k19 ?a20 ?l20 ?c20 ?k20 ?a21 ?l21 ?c21 ?k21 ?a22 ?l22 ?c22 ?k22 ?a23 ?l23 ?c23 ?k23 ?a24 ?l24 ?c24 ?k24 ?a25 ?l25 ?c25 ?k25 ?a26 ?l26 ?c26 ?k26 ?a27 ?l27 ?c27 ?k27 ?a28 ?l28 ?c28 ?k28 ?m1 ?m2 ?m3 ?m4 ?m5 ?m6 ?wN ?qN ?wR ?qR ?wL ?qL ?wK ?qK ?z1 ?z2 ?z3 ?z4 ?z5 ?z6 ?z7 ?z8 ?z9 ?z10 ?z11 ?z12 ?z13 ?z14 ?z15
    (case aC => k_is)
    (case xC => k_exc)
    (case kC => k_is)
    (case eC => k_is)
    (case tC => k_is)
    (case iC => k_is)
    (case sC => first | rfl | k_is)
    (case a1 => k_is)
    (case l1 => k_is)
    (case c1 => k_is)
    (case k1 => k_is)
    (case a2 => k_is)
    (case l2 => k_is)
    (case c2 => k_is)
    (case k2 => k_is)
    (case a3 => k_is)
    (case l3 => k_is)
    (case c3 => k_is)
    (case k3 => k_is)
    (case a4 => k_is)
    (case l4 => k_is)
    (case c4 => k_is)
    (case k4 => k_is)
    (case a5 => k_is)
    (case l5 => k_is)
    (case c5 => k_is)
    (case k5 => k_is)
    (case a6 => k_is)
    (case l6 => k_is)
    (case c6 => k_is)
    (case k6 => k_is)
    (case a7 => k_is)
    (case l7 => k_is)
    (case c7 => k_is)
    (case k7 => k_is)
    (case a8 => k_is)
    (case l8 => k_is)
    (case c8 => k_is)
    (case k8 => k_is)
    (case a9 => k_is)
    (case l9 => k_is)
    (case c9 => k_is)
    (case k9 => k_is)
    (case a10 => k_is)
    (case l10 => k_is)
    (case c10 => k_is)
    (case k10 => k_is)
    (case a11 => k_is)
    (case l11 => k_is)
    (case c11 => k_is)
    (case k11 => k_is)
    (case a12 => k_is)
    (case l12 => k_is)
    (case c12 => k_is)
    (case k12 => k_is)
    (case a13 => k_is)
    (case l13 => k_is)
    (case c13 => k_is)
    (case k13 => k_is)
    (case a14 => k_is)
    (case l14 => k_is)
    (case c14 => k_is)
    (case k14 => k_is)
    (case a15 => k_is)
    (case l15 => k_is)
    (case c15 => k_is)
    (case k15 => k_is)
    (case a16 => k_is)
    (case l16 => k_is)
    (case c16 => k_is)
    (case k16 => k_is)
    (case a17 => k_is)
    (case l17 => k_is)
    (case c17 => k_is)
    (case k17 => k_is)
    (case a18 => k_is)
    (case l18 => k_is)
    (case c18 => k_is)
    (case k18 => k_is)
    (case a19 => k_is)
    (case l19 => k_is)
    (case c19 => k_is)
    (case k19 => k_is)
    (case a20 => k_is)
    (case l20 => k_is)
    (case c20 => k_is)
    (case k20 => k_is)
    (case a21 => k_is)
    (case l21 => k_is)
    (case c21 => k_is)
    (case k21 => k_is)
    (case a22 => k_is)
    (case l22 => k_is)
    (case c22 => k_is)
    (case k22 => k_is)
    (case a23 => k_is)
    (case l23 => k_is)
    (case c23 => k_is)
    (case k23 => k_is)
    (case a24 => k_is)
    (case l24 => k_is)
    (case c24 => k_is)
    (case k24 => k_is)
    (case a25 => k_is)
    (case l25 => k_is)
    (case c25 => k_is)
    (case k25 => k_is)
    (case a26 => k_is)
    (case l26 => k_is)
    (case c26 => k_is)
    (case k26 => k_is)
    (case a27 => k_is)
    (case l27 => k_is)
    (case c27 => k_is)
    (case k27 => k_is)
    (case a28 => k_is)
    (case l28 => k_is)
    (case c28 => k_is)
    (case k28 => k_is)
    (case m1 => k_is)
    (case m2 => k_is)
    (case m3 => k_is)
    (case m4 => k_is)
    (case m5 => k_is)
    (case m6 => k_is)
    (case wN => k_is)
    (case qN => k_is)
    (case wR => k_is)
    (case qR => k_is)
    (case wL => k_is)
    (case qL => k_is)
    (case wK => k_is)
    (case qK => k_is)
    (case z1 => k_is)
    (case z2 => k_is)
    (case z3 => k_is)
    (case z4 => k_is)
    (case z5 => k_is)
    (case z6 => k_is)
    (case z7 => k_is)
    (case z8 => k_is)
    (case z9 => k_is)
    (case z10 => k_is)
    (case z11 => k_is)
    (case z12 => k_is)
    (case z13 => k_is)
    (case z14 => k_is)
    (case z15 => k_is)
