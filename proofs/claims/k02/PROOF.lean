import PyProof.Rows.All
import Wide.All
import OpenK.AllK
import Wide.FinOn
import HandS.ForMost
import HandS.ForExc
import HandS.IsInst
import HandS.Deep
import HandS.StrMore
import HandS.SetKeys
import HandS.TupAny
import HandS.Style
import HandS.Evl
import HandS.Walk
import HandS.Wide
import KE.GoesMore
import KE.GoesEnum
import HandS.Strs
import HandS.Comp
import HandS.HotCalls
import HandS.ExcIs
import HandS.Words
import HandS.Codes
import KE.KExcIs
import KE.KStateDown
import HandS.Head0
import HandS.Head1
import HandS.Head2
import HandS.HeadEnd
import HandS.HeadHook1
import HandS.HeadHook2
import HandS.Sort
import HandS.ExcCtx
import HandS.WordsExc
import HandS.Defaults
import HandS.MakeKwOnly
import HandS.CallSlots
import HandS.ExcOwn
import HandS.DeepEq
import KE.KTryMore
import HandS.TupLe
import PySem.Challenge.RW_watchedrun_k02_first_of_all_no_program
set_option Elab.async false
set_option linter.all false
set_option maxRecDepth 100000
set_option maxHeartbeats 4000000
namespace Wr
open PySem PySem.Spec PyProof.Rows L2 Evl

/-! ### heaps with some addresses hidden -/
def hid (b : List Addr) (H : Hp) : Hp := fun a => if a ∈ b then none else H a
def Kn (b : List Addr) (H : Hp) : Prop := ∀ a ∈ b, H a ≠ none
theorem hid_ne {b : List Addr} {H : Hp} {a : Addr} (h : a ∉ b) : hid b H a = H a := if_neg h
theorem hid_some {b : List Addr} {H : Hp} {a : Addr} {o : HO} (h : hid b H a = some o) : a ∉ b ∧ H a = some o := by
  unfold hid at h
  by_cases e : a ∈ b
  · rw [if_pos e] at h
    cases h
  · rw [if_neg e] at h
    exact ⟨e, h⟩
theorem hid_le {b : List Addr} {H : Hp} : Ex (hid b H) H := fun _ _ h => (hid_some h).2
theorem hid_ex {b : List Addr} {H H' : Hp} (e : Ex H H') : Ex (hid b H) (hid b H') := fun a o h => by
  obtain ⟨h1, h2⟩ := hid_some h
  rw [hid_ne h1]
  exact e a o h2
theorem Kn.up {b : List Addr} {H H' : Hp} (k : Kn b H) (e : Ex H H') : Kn b H' := fun a ha h => by
  have := k a ha
  cases q : H a with
  | none => exact this q
  | some o =>
    rw [e a o q] at h
    cases h
theorem Kn.new {b : List Addr} {H : Hp} (k : Kn b H) {p : Addr} (hp : H p = none) : p ∉ b := fun e => k p e hp

/-! ### data whose tuples are known to have no dict of their own -/
def TN (K : PySem.W.Frag) (H : Hp) (a : Addr) : Prop := (∃ o u, H a = some (.frz o u) ∧ o.dict = none) ∨ ∃ o, K.lookup a = some o ∧ o.cls = .type "tuple" ∧ o.dict = none
theorem TN.ex {K : PySem.W.Frag} {H H' : Hp} {a : Addr} (e : Ex H H') (h : TN K H a) : TN K H' a := by
  rcases h with ⟨o, u, h1, h2⟩ | h
  · exact .inl ⟨o, u, e _ _ h1, h2⟩
  · exact .inr h
mutual
inductive Dd (K : PySem.W.Frag) (H : Hp) : V → PyData → Prop
  | non : Dd K H .non .none
  | bl (b : Bool) : Dd K H (.bl b) (.bool b)
  | int (i : Int) : Dd K H (.int i) (.int i)
  | str (x : Str) : Dd K H (.str x) (.str x)
  | lst {a : Addr} {xs : List V} {ds : List PyData} : SqL K H a xs → DdAll K H xs ds → Dd K H (.ref a) (.list ds)
  | tup {a : Addr} {xs : List V} {ds : List PyData} : SqT K H a xs → TN K H a → DdAll K H xs ds → Dd K H (.ref a) (.tuple ds)
inductive DdAll (K : PySem.W.Frag) (H : Hp) : List V → List PyData → Prop
  | nil : DdAll K H [] []
  | cons {v : V} {vs : List V} {d : PyData} {ds : List PyData} : Dd K H v d → DdAll K H vs ds → DdAll K H (v :: vs) (d :: ds)
end
mutual
theorem dd_dp {K : PySem.W.Frag} {H : Hp} : ∀ (d : PyData) (v : V), Dd K H v d → Dp K H v d
  | .none, _, h => by cases h; exact .non
  | .bool b, _, h => by cases h; exact .bl b
  | .int i, _, h => by cases h; exact .int i
  | .str x, _, h => by cases h; exact .str x
  | .list ds, _, h => by
    cases h with
    | lst hs ha => exact .lst hs (dds_dp ds _ ha)
  | .tuple ds, _, h => by
    cases h with
    | tup hs _ ha => exact .tup hs (dds_dp ds _ ha)
  | .dict _, _, h => by cases h
theorem dds_dp {K : PySem.W.Frag} {H : Hp} : ∀ (ds : List PyData) (vs : List V), DdAll K H vs ds → DpAll K H vs ds
  | [], _, h => by cases h; exact .nil
  | d :: ds, _, h => by
    cases h with
    | cons h1 h2 => exact .cons (dd_dp d _ h1) (dds_dp ds _ h2)
end
/-! ### data stay where the heap grows -/
mutual
theorem dp_ex {K : PySem.W.Frag} {H H' : Hp} (e : Ex H H') : ∀ (d : PyData) (v : V), Dd K H v d → Dd K H' v d
  | .none, _, h => by cases h; exact .non
  | .bool b, _, h => by cases h; exact .bl b
  | .int i, _, h => by cases h; exact .int i
  | .str x, _, h => by cases h; exact .str x
  | .list ds, _, h => by
    cases h with
    | lst hs ha => exact .lst (ex_l e hs) (dps_ex e ds _ ha)
  | .tuple ds, _, h => by
    cases h with
    | tup hs hn ha => exact .tup (ex_t e hs) (hn.ex e) (dps_ex e ds _ ha)
  | .dict _, _, h => by cases h
theorem dps_ex {K : PySem.W.Frag} {H H' : Hp} (e : Ex H H') : ∀ (ds : List PyData) (vs : List V), DdAll K H vs ds → DdAll K H' vs ds
  | [], _, h => by cases h; exact .nil
  | d :: ds, _, h => by
    cases h with
    | cons h1 h2 => exact .cons (dp_ex e d _ h1) (dps_ex e ds _ h2)
end
abbrev Dq (K : PySem.W.Frag) (b : List Addr) (H : Hp) (v : V) (d : PyData) : Prop := Dd K (hid b H) v d
abbrev DqAll (K : PySem.W.Frag) (b : List Addr) (H : Hp) (vs : List V) (ds : List PyData) : Prop := DdAll K (hid b H) vs ds
section
variable {K : PySem.W.Frag} {b : List Addr} {H H' H1 H2 : Hp} {v : V} {vs : List V} {d e : PyData} {ds : List PyData}
theorem Dq.up (h : Dq K b H v d) (e : Ex H H') : Dq K b H' v d := dp_ex (hid_ex e) d v h
theorem DqAll.up (h : DqAll K b H vs ds) (e : Ex H H') : DqAll K b H' vs ds := dps_ex (hid_ex e) ds vs h
theorem Dq.dd (h : Dq K b H v d) : Dd K H v d := dp_ex hid_le d v h
theorem Dq.dp (h : Dq K b H v d) : Dp K H v d := dd_dp d v h.dd
theorem DqAll.dd (h : DqAll K b H vs ds) : DdAll K H vs ds := dps_ex hid_le ds vs h
theorem dps_len : ∀ {vs : List V} {ds : List PyData} {H : Hp}, DdAll K H vs ds → vs.length = ds.length
  | _, [], _, h => by cases h; rfl
  | _, d :: ds, _, h => by
    cases h with
    | cons h1 h2 => rw [List.length_cons, List.length_cons, dps_len h2]
theorem dps_get : ∀ {vs : List V} {ds : List PyData} {H : Hp} {i : Nat} {d : PyData}, DdAll K H vs ds → ds[i]? = some d → ∃ v, vs[i]? = some v ∧ Dd K H v d
  | _, [], _, i, d, h, e => by simp at e
  | _, x :: ds, _, 0, d, h, e => by
    cases h with
    | cons h1 h2 =>
      have e1 : x = d := Option.some.inj e
      subst e1
      exact ⟨_, rfl, h1⟩
  | _, x :: ds, _, i + 1, d, h, e => by
    cases h with
    | cons h1 h2 =>
      obtain ⟨v, q1, q2⟩ := dps_get h2 (i := i) e
      exact ⟨v, q1, q2⟩
theorem dps_at : ∀ {vs : List V} {ds : List PyData} {H : Hp} {i : Nat} {v : V}, DdAll K H vs ds → vs[i]? = some v → ∃ d, ds[i]? = some d ∧ Dd K H v d
  | _, [], _, i, v, h, e => by cases h; simp at e
  | _, x :: ds, _, 0, v, h, e => by
    cases h with
    | cons h1 h2 =>
      have e1 := Option.some.inj e
      subst e1
      exact ⟨_, rfl, h1⟩
  | _, x :: ds, _, i + 1, v, h, e => by
    cases h with
    | cons h1 h2 =>
      obtain ⟨d, q1, q2⟩ := dps_at h2 (i := i) e
      exact ⟨d, q1, q2⟩
theorem dps_app : ∀ {vs ws : List V} {ds es : List PyData} {H : Hp}, DdAll K H vs ds → DdAll K H ws es → DdAll K H (vs ++ ws) (ds ++ es)
  | _, _, [], _, _, h, h' => by cases h; exact h'
  | _, _, x :: ds, _, _, h, h' => by
    cases h with
    | cons h1 h2 => exact .cons h1 (dps_app h2 h')
theorem dps_drop : ∀ {vs : List V} {ds : List PyData} {H : Hp} (n : Nat), DdAll K H vs ds → DdAll K H (vs.drop n) (ds.drop n)
  | _, _, _, 0, h => h
  | _, [], _, n + 1, h => by cases h; exact .nil
  | _, x :: ds, _, n + 1, h => by
    cases h with
    | cons h1 h2 => exact dps_drop n h2
theorem dps_take : ∀ {vs : List V} {ds : List PyData} {H : Hp} (n : Nat), DdAll K H vs ds → DdAll K H (vs.take n) (ds.take n)
  | _, _, _, 0, h => .nil
  | _, [], _, n + 1, h => by cases h; exact .nil
  | _, x :: ds, _, n + 1, h => by
    cases h with
    | cons h1 h2 => exact .cons h1 (dps_take n h2)
/-- texts are texts -/
theorem dps_strs : ∀ {vs : List V} {xs : List Str} {H : Hp}, DdAll K H vs (xs.map PyData.str) → vs = xs.map V.str
  | _, [], _, h => by cases h; rfl
  | _, x :: xs, _, h => by
    cases h with
    | cons h1 h2 =>
      cases h1
      rw [dps_strs h2]
      rfl
theorem strs_dps : ∀ (xs : List Str) {H : Hp}, DdAll K H (xs.map V.str) (xs.map PyData.str)
  | [], _ => .nil
  | x :: xs, _ => .cons (.str x) (strs_dps xs)
theorem dps_bls : ∀ {vs : List V} {xs : List Bool} {H : Hp}, DdAll K H vs (xs.map PyData.bool) → vs = xs.map V.bl
  | _, [], _, h => by cases h; rfl
  | _, x :: xs, _, h => by
    cases h with
    | cons h1 h2 =>
      cases h1
      rw [dps_bls h2]
      rfl
end
/-- a new object at p keeps what is hidden hidden -/
theorem hid_new {b : List Addr} {H : Hp} {p : Addr} {o : HO} (h : p ∉ b) : hid b (upd H p o) p = some o := by
  rw [hid_ne h, upd_same]
end Wr

set_option Elab.async false
set_option linter.all false
set_option maxRecDepth 100000
set_option maxHeartbeats 4000000
namespace Wr
open PySem PySem.Spec PyProof.Rows L2 Evl

/-! ### what evaluates to which datum -/
section
variable (K : PySem.W.Frag) (b : List Addr)
def ED (te : TE) (σ : L2.St) (H : Hp) (d : PyData) : Prop := ∀ H1, Ex H H1 → ∀ Q : VK, (∀ v H2, Ex H1 H2 → Dq K b H2 v d → Q v H2) → te σ H1 Q
def EA (ta : TA) (σ : L2.St) (H : Hp) (ds : List PyData) : Prop := ∀ H1, Ex H H1 → ∀ Q : List V → Hp → Prop, (∀ vs H2, Ex H1 H2 → DqAll K b H2 vs ds → Q vs H2) → ta σ H1 Q
def SR (ts : TS) (σ : L2.St) (H : Hp) (d : PyData) : Prop := ∀ H1, Ex H H1 → ∀ D : Ends, (∀ v H2, Ex H1 H2 → Dq K b H2 v d → D.rt v H2) → ts D σ H1
end
/-- a pure def: data in, a datum out, all that stood stands -/
def spP (K : PySem.W.Frag) (pre : List PyData → Prop) (f : List PyData → PyData) : Sp := fun vs H Q _ =>
  ∃ b ds, Kn b H ∧ DqAll K b H vs ds ∧ pre ds ∧ ∀ v H', Ex H H' → Dq K b H' v (f ds) → Q v H'
section
variable {K : PySem.W.Frag} {b : List Addr} {σ : L2.St} {H H' : Hp} {ta tb tc te : TE} {t : TA} {tt : TT} {ts t1 t2 : TS} {d e : PyData} {ds : List PyData} {v : V}
theorem ED.mono (x : Ex H H') (h : ED K b te σ H d) : ED K b te σ H' d := fun H1 a Q q => h H1 (x.trans a) Q q
theorem EA.mono (x : Ex H H') (h : EA K b t σ H ds) : EA K b t σ H' ds := fun H1 a Q q => h H1 (x.trans a) Q q
theorem SR.mono (x : Ex H H') (h : SR K b ts σ H d) : SR K b ts σ H' d := fun H1 a Q q => h H1 (x.trans a) Q q
theorem ED.to (h : ED K b te σ H d) (x : d = e) : ED K b te σ H e := x ▸ h
theorem SR.to (h : SR K b ts σ H d) (x : d = e) : SR K b ts σ H e := x ▸ h
theorem ed_var {i : Nat} (h : σ[i]? = some (some v)) (hd : Dq K b H v d) : ED K b (tVar i) σ H d := fun H1 x _ q => ⟨v, h, q v H1 (Ex.refl H1) (hd.up x)⟩
theorem ed_c (hd : Dq K b H v d) : ED K b (tC v) σ H d := fun H1 x _ q => q v H1 (Ex.refl H1) (hd.up x)
theorem ed_int {i : Int} : ED K b (tC (.int i)) σ H (.int i) := ed_c (.int i)
theorem ed_str {x : Str} : ED K b (tC (.str x)) σ H (.str x) := ed_c (.str x)
theorem ed_bl {x : Bool} : ED K b (tC (.bl x)) σ H (.bool x) := ed_c (.bl x)
theorem ed_non : ED K b (tC .non) σ H .none := ed_c .non
/-- two operands, then an operation on data -/
theorem ed_op {r : R2} {z : PyData} (ha : ED K b ta σ H d) (hb : ED K b tb σ H e) (hr : ∀ H1 x y (Q : VK), Ex H H1 → Dq K b H1 x d → Dq K b H1 y e → (∀ v H2, Ex H1 H2 → Dq K b H2 v z → Q v H2) → r x y H1 Q) : ED K b (tOp r ta tb) σ H z :=
  fun H1 x1 Q q => ha H1 x1 _ fun x H2 x2 hx => hb H2 (x1.trans x2) _ fun y H3 x3 hy =>
    hr H3 x y Q ((x1.trans x2).trans x3) (hx.up x3) hy fun v H4 x4 hv => q v H4 ((x2.trans x3).trans x4) hv
theorem ed_eq (ha : ED K b ta σ H d) (hb : ED K b tb σ H e) (sd : SeqAt.shaped d = true) (se : SeqAt.shaped e = true) : ED K b (tOp (rEqD K) ta tb) σ H (.bool (PyData.eqv d e)) :=
  ed_op ha hb fun H1 x y Q _ hx hy q => ⟨d, e, hx.dp, hy.dp, sd, se, q _ H1 (Ex.refl H1) (.bl _)⟩
theorem ed_ne (ha : ED K b ta σ H d) (hb : ED K b tb σ H e) (sd : SeqAt.shaped d = true) (se : SeqAt.shaped e = true) : ED K b (tOp (rNeD K) ta tb) σ H (.bool (!PyData.eqv d e)) :=
  ed_op ha hb fun H1 x y Q _ hx hy q => ⟨d, e, hx.dp, hy.dp, sd, se, q _ H1 (Ex.refl H1) (.bl _)⟩
theorem dq_int {i : Int} (h : Dq K b H v (.int i)) : v = .int i := by cases h; rfl
theorem dq_bl {i : Bool} (h : Dq K b H v (.bool i)) : v = .bl i := by cases h; rfl
theorem dq_str {i : Str} (h : Dq K b H v (.str i)) : v = .str i := by cases h; rfl
theorem ed_I0 {g : Int → Int → V} {i j : Int} {z : PyData} (ha : ED K b ta σ H (.int i)) (hb : ED K b tb σ H (.int j)) (hz : ∀ H', Dq K b H' (g i j) z) : ED K b (tOp (rI0 g) ta tb) σ H z :=
  ed_op ha hb fun H1 x y Q _ hx hy q => ⟨i, j, dq_int hx, dq_int hy, q _ H1 (Ex.refl H1) (hz _)⟩
theorem ed_I {C : Int → Int → Prop} {g : Int → Int → V} {i j : Int} {z : PyData} (ha : ED K b ta σ H (.int i)) (hb : ED K b tb σ H (.int j)) (hc : C i j) (hz : ∀ H', Dq K b H' (g i j) z) : ED K b (tOp (rI C g) ta tb) σ H z :=
  ed_op ha hb fun H1 x y Q _ hx hy q => ⟨i, j, dq_int hx, dq_int hy, hc, q _ H1 (Ex.refl H1) (hz _)⟩
theorem ed_lt {i j : Int} (ha : ED K b ta σ H (.int i)) (hb : ED K b tb σ H (.int j)) : ED K b (tOp (rI0 fun i j => .bl (decide (i < j))) ta tb) σ H (.bool (decide (i < j))) := ed_I0 ha hb fun _ => .bl _
theorem ed_le {i j : Int} (ha : ED K b ta σ H (.int i)) (hb : ED K b tb σ H (.int j)) : ED K b (tOp (rI0 fun i j => .bl (decide (i ≤ j))) ta tb) σ H (.bool (decide (i ≤ j))) := ed_I0 ha hb fun _ => .bl _
theorem ed_gt {i j : Int} (ha : ED K b ta σ H (.int i)) (hb : ED K b tb σ H (.int j)) : ED K b (tOp (rI0 fun i j => .bl (decide (j < i))) ta tb) σ H (.bool (decide (j < i))) := ed_I0 ha hb fun _ => .bl _
theorem ed_ge {i j : Int} (ha : ED K b ta σ H (.int i)) (hb : ED K b tb σ H (.int j)) : ED K b (tOp (rI0 fun i j => .bl (decide (j ≤ i))) ta tb) σ H (.bool (decide (j ≤ i))) := ed_I0 ha hb fun _ => .bl _
theorem ed_add {i j : Int} (ha : ED K b ta σ H (.int i)) (hb : ED K b tb σ H (.int j)) : ED K b (tOp (rI0 fun i j => .int (i + j)) ta tb) σ H (.int (i + j)) := ed_I0 ha hb fun _ => .int _
theorem ed_sub {i j : Int} (ha : ED K b ta σ H (.int i)) (hb : ED K b tb σ H (.int j)) : ED K b (tOp (rI0 fun i j => .int (i - j)) ta tb) σ H (.int (i - j)) := ed_I0 ha hb fun _ => .int _
theorem ed_neg {i : Int} (ha : ED K b ta σ H (.int i)) : ED K b (tUn (rU fun i => .int (-i)) ta) σ H (.int (-i)) := fun H1 x1 Q q =>
  ha H1 x1 _ fun x H2 x2 hx => ⟨i, dq_int hx, q _ H2 x2 (.int _)⟩
/-- a chain of two comparisons of ints -/
theorem ed_chain {g g' : Int → Int → Bool} {i j k : Int} (ha : ED K b ta σ H (.int i)) (hb : ED K b tb σ H (.int j)) (hc : ED K b tc σ H (.int k)) :
    ED K b (tChain (rI0 fun i j => .bl (g i j)) (rI0 fun i j => .bl (g' i j)) ta tb tc) σ H (.bool (g i j && g' j k)) := fun H1 x1 Q q =>
  ha H1 x1 _ fun x H2 x2 hx => hb H2 (x1.trans x2) _ fun y H3 x3 hy => ⟨i, j, dq_int hx, dq_int hy, g i j, rfl, by
    cases hg : g i j with
    | false =>
      rw [if_neg Bool.false_ne_true]
      rw [hg] at q
      exact q _ H3 (x2.trans x3) (.bl _)
    | true =>
      rw [if_pos rfl]
      rw [hg] at q
      exact hc H3 ((x1.trans x2).trans x3) _ fun z H4 x4 hz => ⟨j, k, dq_int hy, dq_int hz, q _ H4 ((x2.trans x3).trans x4) (.bl _)⟩⟩
theorem ed_and {c : Bool} (ha : ED K b ta σ H (.bool c)) (hb : c = true → ED K b tb σ H d) : ED K b (tAndV ta tb) σ H (if c = true then d else .bool false) := fun H1 x1 Q q =>
  ha H1 x1 _ fun x H2 x2 hx => ⟨c, dq_bl hx, by
    cases c with
    | false =>
      rw [if_neg Bool.false_ne_true]
      rw [if_neg Bool.false_ne_true] at q
      exact q _ H2 x2 (.bl _)
    | true =>
      rw [if_pos rfl]
      rw [if_pos rfl] at q
      exact hb rfl H2 (x1.trans x2) _ fun z H4 x4 hz => q _ H4 (x2.trans x4) hz⟩
theorem ed_or {c : Bool} (ha : ED K b ta σ H (.bool c)) (hb : c = false → ED K b tb σ H d) : ED K b (tOrV ta tb) σ H (if c = true then .bool true else d) := fun H1 x1 Q q =>
  ha H1 x1 _ fun x H2 x2 hx => ⟨c, dq_bl hx, by
    cases c with
    | true =>
      rw [if_pos rfl]
      rw [if_pos rfl] at q
      exact q _ H2 x2 (.bl _)
    | false =>
      rw [if_neg Bool.false_ne_true]
      rw [if_neg Bool.false_ne_true] at q
      exact hb rfl H2 (x1.trans x2) _ fun z H4 x4 hz => q _ H4 (x2.trans x4) hz⟩
/-- and, or of truths -/
theorem ed_andB {c k : Bool} (ha : ED K b ta σ H (.bool c)) (hb : c = true → ED K b tb σ H (.bool k)) : ED K b (tAndV ta tb) σ H (.bool (c && k)) := (ed_and ha hb).to (by cases c <;> rfl)
theorem ed_orB {c k : Bool} (ha : ED K b ta σ H (.bool c)) (hb : c = false → ED K b tb σ H (.bool k)) : ED K b (tOrV ta tb) σ H (.bool (c || k)) := (ed_or ha hb).to (by cases c <;> rfl)
theorem ed_not {c : Bool} (ha : ED K b ta σ H (.bool c)) : ED K b (tNotV ta) σ H (.bool (!c)) := fun H1 x1 Q q =>
  ha H1 x1 _ fun x H2 x2 hx => ⟨c, dq_bl hx, q _ H2 x2 (.bl _)⟩
theorem et_t {c : Bool} (h : ED K b te σ H (.bool c)) : EvT (tTest te) σ H c := fun H1 x Q q => h H1 x _ fun v H2 x2 hv => ⟨c, dq_bl hv, q H2 x2⟩
theorem et_b {c : Bool} (h : ED K b te σ H (.bool c)) : EvT (tB te) σ H c := fun H1 x Q q => h H1 x _ fun v H2 x2 hv => ⟨c, dq_bl hv, q H2 x2⟩
theorem ed_if {c : Bool} (hc : EvT tt σ H c) (ha : c = true → ED K b ta σ H d) (hb : c = false → ED K b tb σ H e) : ED K b (tIf tt ta tb) σ H (if c = true then d else e) := fun H1 x1 Q q =>
  hc H1 x1 _ fun H2 x2 => by
    cases c with
    | true =>
      rw [if_pos rfl]
      rw [if_pos rfl] at q
      exact ha rfl H2 (x1.trans x2) _ fun z H4 x4 hz => q _ H4 (x2.trans x4) hz
    | false =>
      rw [if_neg Bool.false_ne_true]
      rw [if_neg Bool.false_ne_true] at q
      exact hb rfl H2 (x1.trans x2) _ fun z H4 x4 hz => q _ H4 (x2.trans x4) hz
/-! ### arguments, calls -/
theorem ea_nil : EA K b tNil σ H [] := fun H1 x Q q => q [] H1 (Ex.refl H1) .nil
theorem ea_cons (ha : ED K b ta σ H d) (hr : EA K b t σ H ds) : EA K b (tCons ta t) σ H (d :: ds) := fun H1 x1 Q q =>
  ha H1 x1 _ fun x H2 x2 hx => hr H2 (x1.trans x2) _ fun xs H3 x3 hxs => q _ H3 (x2.trans x3) (.cons (hx.up x3) hxs)
theorem ed_call {pre : List PyData → Prop} {f : List PyData → PyData} {E : XK} (kn : Kn b H) (ha : EA K b t σ H ds) (hp : pre ds) : ED K b (tCall (spP K pre f) [] E t) σ H (f ds) := fun H1 x1 Q q =>
  ha H1 x1 _ fun vs H2 x2 hvs => ⟨b, ds, kn.up (x1.trans x2), by rw [List.append_nil]; exact hvs, hp, fun v H3 x3 hv => q v H3 (x2.trans x3) hv⟩
/-! ### blocks -/
theorem sr_ret (h : ED K b te σ H d) : SR K b (tRet te) σ H d := fun H1 x D q => h H1 x _ fun v H2 x2 hv => q v H2 x2 hv
theorem sr_if {c : Bool} (hc : EvT tt σ H c) (h1 : c = true → SR K b t1 σ H d) (h2 : c = false → SR K b t2 σ H e) : SR K b (tSeq (tIfS tt t1 tNext) t2) σ H (if c = true then d else e) := fun H1 x1 D q =>
  hc H1 x1 _ fun H2 x2 => by
    cases c with
    | true =>
      rw [if_pos rfl]
      rw [if_pos rfl] at q
      exact h1 rfl H2 (x1.trans x2) _ fun z H4 x4 hz => q _ H4 (x2.trans x4) hz
    | false =>
      rw [if_neg Bool.false_ne_true]
      rw [if_neg Bool.false_ne_true] at q
      exact h2 rfl H2 (x1.trans x2) _ fun z H4 x4 hz => q _ H4 (x2.trans x4) hz
theorem sr_set {i : Nat} (h : ED K b te σ H e) (k : ∀ v H', Ex H H' → Dq K b H' v e → SR K b ts (σ.set i (some v)) H' d) : SR K b (tSeq (tAsg te (gName i)) ts) σ H d := fun H1 x1 D q =>
  h H1 x1 _ fun v H2 x2 hv => k v H2 (x1.trans x2) hv H2 (Ex.refl H2) D fun z H4 x4 hz => q _ H4 (x2.trans x4) hz
/-- the def's own end -/
theorem SR.fin {D : Ends} (h : SR K b ts σ H d) (q : ∀ v H', Ex H H' → Dq K b H' v d → D.rt v H') : ts D σ H := h H (Ex.refl H) D q
end
/-! ### kinds -/
def dTy : PyData → String
  | .none => "NoneType"
  | .bool _ => "bool"
  | .int _ => "int"
  | .str _ => "str"
  | .list _ => "list"
  | .tuple _ => "tuple"
  | .dict _ => "dict"
def tyIs (t T : String) : Bool := t == T || (t == "bool" && T == "int")
def isD (T : String) (d : PyData) : Bool := tyIs (dTy d) T
theorem dp_ty {K : PySem.W.Frag} {H : Hp} {v : V} {d : PyData} (h : Dp K H v d) : TyX K H v (.type (dTy d)) := by
  cases h with
  | non => exact .base .non
  | bl b => exact .base (.bl b)
  | int i => exact .base (.int i)
  | str x => exact .base (.str x)
  | lst hs _ =>
    rcases hs with (h | ⟨o, h⟩) | ⟨o, _, _, h1, h2, _⟩
    · exact .base (.lst h)
    · exact .base (.frz h)
    · exact .kList h1 h2
  | tup hs _ =>
    rcases hs with (h | ⟨o, h⟩) | ⟨o, _, _, h1, h2, _⟩
    · exact .base (.tup h)
    · exact .fTuple h
    · exact .kTuple h1 h2
def KindT (T : String) : Prop := T = "int" ∨ T = "bool" ∨ T = "str" ∨ T = "tuple" ∨ T = "list"
theorem kit_all : (["NoneType", "bool", "int", "str", "list", "tuple"].all fun t => ["int", "bool", "str", "tuple", "list"].all fun T => decide (kitB t T = some (tyIs t T))) = true := by decide +kernel
theorem kit_at {t T : String} (ht : t ∈ ["NoneType", "bool", "int", "str", "list", "tuple"]) (hT : T ∈ ["int", "bool", "str", "tuple", "list"]) : kitB t T = some (tyIs t T) :=
  of_decide_eq_true (List.all_eq_true.mp (List.all_eq_true.mp kit_all t ht) T hT)
theorem dp_kit {K : PySem.W.Frag} {H : Hp} {v : V} {d : PyData} (h : Dp K H v d) {T : String} (hT : KindT T) : PySem.W.kitOne K (.type (dTy d)) (.type T) = some (isD T d) := by
  refine kit_ty (kit_at ?_ ?_)
  · cases h <;> simp [dTy]
  · rcases hT with rfl | rfl | rfl | rfl | rfl <;> simp
section
variable {K : PySem.W.Frag} {b : List Addr} {σ : L2.St} {H H' : Hp} {ta tb : TE} {d e : PyData} {ds : List PyData} {v : V}
theorem ed_isi {T : String} (hT : KindT T) (ha : ED K b ta σ H d) : ED K b (tCB (rIsi K) (tCons ta (tCons (tC (.ty T)) tNil))) σ H (.bool (isD T d)) := fun H1 x1 Q q =>
  ha H1 x1 _ fun x H2 x2 hx => ⟨x, .ty T, .type (dTy d), .type T, isD T d, rfl, .ty T, dp_ty hx.dp, dp_kit hx.dp hT, q _ H2 x2 (.bl _)⟩
/-! ### len -/
def lenD : PyData → Nat
  | .str x => x.length
  | .list xs => xs.length
  | .tuple xs => xs.length
  | _ => 0
def rLen (K : PySem.W.Frag) : List V → Hp → VK → Prop := fun xs H Q => ∃ x n, xs = [x] ∧ LenV K x H n ∧ Q (.int n) H
theorem call_lenD1 {X : Cx} : CallR X (.builtin "len") (rLen X.K) := call_len
theorem ed_len (ha : ED K b ta σ H d) (hk : isD "str" d = true ∨ isD "list" d = true ∨ isD "tuple" d = true) (hs : ∀ x, d = .str x → x.length ≤ sizeLine) : ED K b (tCB (rLen K) (tCons ta tNil)) σ H (.int (lenD d)) := fun H1 x1 Q q =>
  ha H1 x1 _ fun x H2 x2 hx => by
    refine ⟨x, lenD d, rfl, ?_, q _ H2 x2 (.int _)⟩
    have hx' := hx.dd
    cases hx' with
    | str y => exact ⟨hs y rfl, rfl⟩
    | lst h1 h2 => exact Or.inl ⟨_, h1, (dps_len h2).symm⟩
    | tup h1 _ h2 => exact Or.inr ⟨_, h1, (dps_len h2).symm⟩
    | non => rcases hk with h | h | h <;> exact absurd h (by show ¬ tyIs "NoneType" _ = true; decide)
    | bl c => rcases hk with h | h | h <;> exact absurd h (by show ¬ tyIs "bool" _ = true; decide)
    | int c => rcases hk with h | h | h <;> exact absurd h (by show ¬ tyIs "int" _ = true; decide)
/-! ### items -/
theorem dps_atI {H : Hp} {vs : List V} {ds : List PyData} {i : Int} {d : PyData} (h : DdAll K H vs ds) (hi : atI ds i = some d) : ∃ v, atI vs i = some v ∧ Dd K H v d := by
  unfold atI at hi ⊢
  rw [dps_len h]
  cases hj : ixN ds.length i with
  | none => rw [hj] at hi; cases hi
  | some j =>
    rw [hj] at hi
    exact dps_get h (i := j) hi
theorem ed_ixT {i : Int} {z : PyData} (ha : ED K b ta σ H (.tuple ds)) (hb : ED K b tb σ H (.int i)) (hi : atI ds i = some z) : ED K b (tOp (rIxT K) ta tb) σ H z :=
  ed_op ha hb fun H1 x y Q _ hx hy q => by
    cases hx with
    | tup h1 _ h2 =>
      obtain ⟨v, q1, q2⟩ := dps_atI h2 hi
      exact ⟨_, _, i, v, rfl, dq_int hy, ex_t hid_le h1, q1, q v H1 (Ex.refl H1) q2⟩
theorem ed_ixL {i : Int} {z : PyData} (ha : ED K b ta σ H (.list ds)) (hb : ED K b tb σ H (.int i)) (hi : atI ds i = some z) : ED K b (tOp (rIxL K) ta tb) σ H z :=
  ed_op ha hb fun H1 x y Q _ hx hy q => by
    cases hx with
    | lst h1 h2 =>
      obtain ⟨v, q1, q2⟩ := dps_atI h2 hi
      exact ⟨_, _, i, v, rfl, dq_int hy, ex_l hid_le h1, q1, q v H1 (Ex.refl H1) q2⟩
/-! ### in -/
def rInT (K : PySem.W.Frag) (neg : Bool) : R2 := fun x y H Q => ∃ d ds, Dp K H x d ∧ Dp K H y (.tuple ds) ∧ SeqAt.shaped d = true ∧ SeqAt.shaped (.tuple ds) = true ∧ Q (.bl (if neg = true then !ds.any (fun z => PyData.eqv z d) else ds.any fun z => PyData.eqv z d)) H
theorem op_inT {X : Cx} (hu : X.A.units + 65 < cLine) : OpR X (compareOp .In) (rInT X.K false) := by
  intro pins s σ H x y v u Q I rx ry ⟨d, ds, hd, he, sd, se, q⟩
  obtain ⟨as, r1⟩ := Dp.reads I d x v hd rx
  obtain ⟨bs, r2⟩ := Dp.reads I (.tuple ds) y u he ry
  exact SeqAt.in_tuple_reads r2 r1 (SeqAt.canLay_of_shaped se) (SeqAt.canLay_of_shaped sd) (room_in_shaped sd hu) ⟨.bl _, H, I, rfl, q⟩
theorem op_notInT {X : Cx} (hu : X.A.units + 65 < cLine) : OpR X (compareOp .NotIn) (rInT X.K true) := by
  intro pins s σ H x y v u Q I rx ry ⟨d, ds, hd, he, sd, se, q⟩
  obtain ⟨as, r1⟩ := Dp.reads I d x v hd rx
  obtain ⟨bs, r2⟩ := Dp.reads I (.tuple ds) y u he ry
  exact SeqAt.notIn_tuple_reads r2 r1 (SeqAt.canLay_of_shaped se) (SeqAt.canLay_of_shaped sd) (room_in_shaped sd hu) ⟨.bl _, H, I, rfl, q⟩
def inD (d : PyData) (ds : List PyData) : Bool := ds.any fun z => PyData.eqv z d
theorem ed_inT (ha : ED K b ta σ H d) (hb : ED K b tb σ H (.tuple ds)) (sd : SeqAt.shaped d = true) (se : SeqAt.shaped (.tuple ds) = true) : ED K b (tOp (rInT K false) ta tb) σ H (.bool (inD d ds)) :=
  ed_op ha hb fun H1 x y Q _ hx hy q => ⟨d, ds, hx.dp, hy.dp, sd, se, q _ H1 (Ex.refl H1) (.bl _)⟩
theorem ed_inL (ha : ED K b ta σ H d) (hb : ED K b tb σ H (.list ds)) (sd : SeqAt.shaped d = true) (se : SeqAt.shaped (.list ds) = true) : ED K b (tOp (rInD K) ta tb) σ H (.bool (inD d ds)) :=
  ed_op ha hb fun H1 x y Q _ hx hy q => ⟨d, ds, hx.dp, hy.dp, sd, se, q _ H1 (Ex.refl H1) (.bl _)⟩
theorem ed_ninL (ha : ED K b ta σ H d) (hb : ED K b tb σ H (.list ds)) (sd : SeqAt.shaped d = true) (se : SeqAt.shaped (.list ds) = true) : ED K b (tOp (rNotInD K) ta tb) σ H (.bool (!inD d ds)) :=
  ed_op ha hb fun H1 x y Q _ hx hy q => ⟨d, ds, hx.dp, hy.dp, sd, se, q _ H1 (Ex.refl H1) (.bl _)⟩
/-! ### new lists and tuples -/
theorem ed_lst {t : TA} (kn : Kn b H) (ha : EA K b t σ H ds) (hl : ds.length ≤ sizeLine) : ED K b (tLst t) σ H (.list ds) := fun H1 x1 Q q =>
  ha H1 x1 _ fun vs H2 x2 hvs => ⟨by rw [dps_len hvs]; exact hl, fun p hp => q _ _ (x2.trans (Ex.new hp))
    (.lst (.inl (.inl (hid_new ((kn.up (x1.trans x2)).new hp)))) (hvs.up (Ex.new hp)))⟩
/-- a tuple display, its object known -/
def tTupF (t : TA) : TE := fun σ H Q => t σ H fun xs H1 => xs.length ≤ sizeLine ∧ ∀ p o, H1 p = none → o.dict = none → Q (.ref p) (upd H1 p (.frz o (.tup xs)))
theorem pe_tupF {X : Cx} {es : List Expr} {t : TA} {pos : Pos} {x1} (h : PA X es t) : PE X (.Tuple es x1 pos) (tTupF t) := by
  refine ⟨fun pins s σ H Q I hq => ?_⟩
  refine wpAny_Tuple_spliced (thn (h.run pos pins s σ H _ I hq) fun us s1 ⟨xs, H1, I1, r, z, q⟩ => ⟨by rw [← r.length]; exact z, ?_⟩)
  have hf : H1 s1.heap.objs.size = none := I1.hok.fresh (Nat.le_refl _)
  refine ⟨.ref s1.heap.objs.size, upd H1 s1.heap.objs.size (.frz { cls := .type "tuple", data := .seq us.toArray } (.tup xs)),
    I1.laid (t' := s1.toks) (fun b u e => Heap.get?_push_of_some _ e) (Nat.le_refl _) ?_, rfl, q _ _ hf rfl⟩
  exact ⟨Heap.get?_push_size _ rfl, z, us, r, ⟨_, Heap.get?_push_size _ rfl, rfl, _, rfl⟩⟩
theorem ed_tup {t : TA} (kn : Kn b H) (ha : EA K b t σ H ds) (hl : ds.length ≤ sizeLine) : ED K b (tTupF t) σ H (.tuple ds) := fun H1 x1 Q q =>
  ha H1 x1 _ fun vs H2 x2 hvs => ⟨by rw [dps_len hvs]; exact hl, fun p o hp ho => by
    have e := hid_new (o := HO.frz o (.tup vs)) (H := H2) ((kn.up (x1.trans x2)).new hp)
    exact q _ _ (x2.trans (Ex.new hp)) (.tup (.inl (.inr ⟨_, e⟩)) (.inl ⟨_, _, e, ho⟩) (hvs.up (Ex.new hp)))⟩
/-! ### all([..]) -/
theorem ed_all {bs : List Bool} (ha : ED K b ta σ H (.list (bs.map PyData.bool))) : ED K b (tCB (rAll K) (tCons ta tNil)) σ H (.bool (bs.all id)) := fun H1 x1 Q q =>
  ha H1 x1 _ fun x H2 x2 hx => by
    have hx' := hx.dd
    cases hx' with
    | lst h1 h2 =>
      rw [dps_bls h2] at h1
      exact ⟨_, bs, rfl, h1, q _ H2 x2 (.bl _)⟩
end
end Wr

set_option Elab.async false
set_option linter.all false
set_option maxRecDepth 100000
set_option maxHeartbeats 4000000
namespace Wr
open PySem PySem.Spec PyProof.Rows L2 Evl

/-! ### enumerate(tuple) -/
theorem enum_new1 {v : Value} {o : Obj} {H : Heap → Prop} (B : Begins v o H) :
    Meets (Builtin.«enumerate.__new__» ⟨[.type "enumerate", v], []⟩) (fun _ R s => H s.heap ∧
      R (.ok (.ret (.ref (s.heap.push o).objs.size)))
        { s with heap := (s.heap.push o).push { cls := .type "enumerate", data := .fields #[.none, .bool false, .ref s.heap.objs.size, rawInt 0, .none, .none] } }) :=
  .of_wp fun prog w A R s h => by
    obtain ⟨hp, g, d, tk, os⟩ := s
    obtain ⟨h1, h⟩ := h
    have hsub := sub_enumerate
    have q1 : ∀ {A' : Around} {E : Value → Shared → Prop} {Q : Value → Shared → Prop}, Q (.ref hp.objs.size) ⟨hp.push o, g, d, tk, os⟩ →
        wpAny (model prog w) A' (pyIter v) Q E ⟨hp, g, d, tk, os⟩ := fun q => B.iter prog w _ _ ⟨hp, g, d, tk, os⟩ _ h1 q
    wp_walk using q1
    refine wpAny_stack_any fun st => wpAny_pure ?_
    split
    · rename_i c _ _ _ _ _
      cases (c == Value.type "enumerate") <;> (wp_walk using q1; exact ⟨_, rfl, h⟩)
    · wp_walk using q1
      exact ⟨_, rfl, h⟩
section
variable {prog : Program} {w : World} {A : Around} {E : Value → Shared → Prop} {s : Shared}
theorem enum_call1 {v : Value} {o : Obj} {H : Heap → Prop} {Q : Value → Shared → Prop} (B : Begins v o H) (h1 : H s.heap)
    (h : ∀ h', IsEnum h' (s.heap.objs.size + 1) s.heap.objs.size 0 .none → h'.get? s.heap.objs.size = some o →
      (∀ b o, s.heap.get? b = some o → h'.get? b = some o) → Q (.ref (s.heap.objs.size + 1)) { s with heap := h' }) :
    wpAny (model prog w) A (call (.type "enumerate") [v]) Q E s := by
  refine callType_new F.called_enumerate (by decide) (F.typeCall_enumerate_1 _) (F.newCall_enumerate_1 _) (fun obj => F.args_object_init_2 obj _)
    F.entry_enumerate_new (enum_new1 B) ⟨h1, ?_⟩
  have hz : (s.heap.push o).objs.size = s.heap.objs.size + 1 := Heap.size_push ..
  show _ ∧ _
  rw [hz]
  have he : IsEnum ((s.heap.push o).push { cls := .type "enumerate", data := .fields #[.none, .bool false, .ref s.heap.objs.size, rawInt 0, .none, .none] })
      (s.heap.objs.size + 1) s.heap.objs.size 0 .none := by
    have g := Heap.get?_push_size (s.heap.push o) (o := { cls := .type "enumerate", data := .fields #[.none, .bool false, .ref s.heap.objs.size, rawInt 0, .none, .none] }) rfl
    rw [hz] at g
    exact g
  exact ⟨⟨_, he, rfl⟩, h _ he (Heap.get?_push_of_some _ (Heap.get?_push_size _ B.free)) fun b o x => Heap.get?_push_of_some _ (Heap.get?_push_of_some _ x)⟩
end
/-- the tuple at a, each item with its number in a new pair -/
def Itet (K : PySem.W.Frag) (a : Addr) : It where
  go := fun i H => ∃ (xs : List V) (x : V), SqT K H a xs ∧ xs[i]? = some x
  yld := fun i H v H' => ∃ T x, v = .ref T ∧ H T = none ∧ H' = upd H T (.tup [.int (i : Nat), x]) ∧ ∀ xs, SqT K H a xs → xs[i]? = some x
  stop := fun i H => ∃ xs : List V, SqT K H a xs ∧ xs.length = i
theorem turn_enumT {P : Program} {w : World} {K : PySem.W.Frag} {elts : List Expr} {kk : Nat} {tpos : Pos} (a e it : Addr) (hne : e ≠ it) (hat : a ≠ it) (hea : e ≠ a) :
    Turn P w K (.Tuple elts kk tpos) (Itet K a) [e, it] e (fun i h => (∃ old, IsEnum h e it ((i : Nat) : Int) old) ∧ h.IsTupleIter it a i) where
  mem := by simp
  obj := fun i h st b hb => by
    obtain ⟨⟨old, he⟩, ⟨o, ho, hc, hd⟩⟩ := st
    rcases (show b = e ∨ b = it by simpa using hb) with z | z
    · subst z
      exact ⟨_, he, fun v q => nomatch q⟩
    · subst z
      exact ⟨o, ho, fun v q => by rw [hd] at q; cases q⟩
  keep := fun i h h' st k => by
    obtain ⟨⟨old, he⟩, hi⟩ := st
    exact ⟨⟨old, k e (by simp) _ he⟩, hi.at fun o q => k it (by simp) o q⟩
  item := by
    intro X hP hw hK hc i pins s σ H E I hf st hg
    subst hP hw hK
    obtain ⟨⟨old, he⟩, hit⟩ := st
    obtain ⟨xs, x, hq, hx⟩ := hg
    obtain ⟨its, rv, p, hz⟩ := I.tuple hq
    obtain ⟨u, hu, ru⟩ := rv.get hx
    have hel : e < s.heap.objs.size := Heap.lt_size he
    have hil : it < s.heap.objs.size := by
      obtain ⟨_, q, _⟩ := hit
      exact Heap.lt_size q
    have hd : (X.A.in1).handled = none := I.ok.hd hc
    have hlt : i < its.toArray.size := by
      have := (List.getElem?_eq_some_iff.mp hu).1
      simpa using this
    refine wpAny_pyNext_enum_itemD (Draws.tuple hd it a hat its.toArray) he (i := i) ⟨hit, p⟩ hlt hne (by simp [hne, hea]) fun y h' tk hy ho st' hT hsz hk => ?_
    have ey : y = u := by
      have : its.toArray[i]? = some u := by simpa using hu
      rw [this] at hy
      exact (Option.some.inj hy).symm
    subst ey
    refine ⟨_, rfl, wpAny_letOwnedTupleGo_enum (s := { s with heap := h', toks := tk + 1 }) ho fun h'' he' sb => ?_⟩
    have hT2 : h''.get? s.heap.objs.size = some { cls := .type "tuple", data := .seq #[.int i tk, y] } := (sb.2 _ (Nat.ne_of_gt hel)).trans hT
    have new : ObjOk X.prog X.w (upd H s.heap.objs.size (.tup [.int (i : Nat), x])) h'' s.heap.objs.size (.tup [.int (i : Nat), x]) :=
      ⟨by show 2 ≤ sizeLine; decide, [.int i tk, y], .cons ⟨_, rfl⟩ (.cons ru .nil), ⟨_, hT2, rfl, _, rfl⟩⟩
    have I1 : Inv X pins σ (upd H s.heap.objs.size (.tup [.int (i : Nat), x])) { s with heap := h'', toks := tk + 1 } := by
      refine I.turnedNew (ch := [e, it]) (fun b ob hb q => ?_) hf (Nat.le_refl _) new
      have h1 : b ≠ e := fun z => hb (by simp [z])
      have h2 : b ≠ it := fun z => hb (by simp [z])
      exact (sb.2 b h1).trans (hk b ob h1 h2 q)
    refine ⟨.ref s.heap.objs.size, _, I1, rfl, ⟨_, x, rfl, I.hok.fresh (Nat.le_refl _), rfl, fun ys hy' => ?_⟩, ⟨⟨y, ?_⟩, st'.1.at fun o q => (sb.2 it (Ne.symm hne)).trans q⟩, fun b hb => ?_⟩
    · rw [I.tuple_inj hy' hq]
      exact hx
    · have e1 : ((i + 1 : Nat) : Int) = (i : Int) + 1 := by omega
      rw [e1]
      exact he'
    · have hb' : b < s.heap.objs.size := by
        rcases (show b = e ∨ b = it by simpa using hb) with z | z
        · rw [z]; exact hel
        · rw [z]; exact hil
      rw [upd_ne (Nat.ne_of_lt hb')]
      exact (hf b hb).1
  done := by
    intro X hP hw hK hc i pins s σ H E I hf st hg
    subst hP hw hK
    obtain ⟨⟨old, he⟩, hit⟩ := st
    obtain ⟨xs, hq, hx⟩ := hg
    obtain ⟨its, rv, p, hz⟩ := I.tuple hq
    obtain ⟨f0, f1, f2, f3, f4, f5⟩ := hf it (by simp)
    have hl := rv.length
    have hd : (X.A.in1).handled = none := I.ok.hd hc
    have ei : i = its.toArray.size := by
      rw [List.size_toArray]
      omega
    subst ei
    exact wpAny_pyNext_enum_endD (Draws.tuple hd it a hat its.toArray) he ⟨hit, p⟩ fun h' eb => ⟨rfl, I.turned (t' := s.toks) (fun b o hb q => eb b o hb q) f0 f1 f3 f4 f5⟩
  self := fun A i s Q E st h => by
    obtain ⟨⟨_, he⟩, _⟩ := st
    exact wpAny_pyIter_enum he h
def iEnumT (K : PySem.W.Frag) (ta : TA) : TI := fun σ H R => ta σ H fun vs H1 => ∃ a xs, vs = [.ref a] ∧ SqT K H1 a xs ∧ R (Itet K a) H1
theorem pi_enumT {X : Cx} {e : Expr} {ta : TA} {p pos tpos : Pos} {elts : List Expr} {kk : Nat} (hg : Gl X "enumerate") (hm : X.mg "enumerate" = none) (ha : PA X [e] ta)
    (hs : starEach [e] X.env = [(false, eval e X.env)] := by rfl) : PI X (.Tuple elts kk tpos) (.Call (.Name "enumerate" p) [e] [] pos) (iEnumT X.K ta) := by
  refine ⟨fun pins s σ H R I h => ?_⟩
  refine Call_ (ld_blt I hg hm boot_enumerate (PyProof.Rows.callWith_type1 (thn (ha.run pos pins s σ H _ I h) fun us s1 ⟨vs, H1, I1, r1, q1⟩ => ?_) hs rfl))
  obtain ⟨a, xs, ex, hq, q⟩ := q1
  subst ex
  cases r1 with
  | cons r rr =>
    cases rr
    cases r
    obtain ⟨its, rv, p', hz⟩ := I1.tuple hq
    have hal : a < s1.heap.objs.size := by
      obtain ⟨_, q', _⟩ := p'
      exact Heap.lt_size q'
    refine enum_call1 (begins_tuple a its.toArray) p' fun h' he hit hk => wpAny_pyIter_enum he ?_
    have I2 : Inv X pins σ H1 { s1 with heap := h' } := I1.kept (t' := s1.toks) hk
    refine ⟨s1.heap.objs.size + 1, [s1.heap.objs.size + 1, s1.heap.objs.size], _, _, H1, rfl, I2,
      turn_enumT a (s1.heap.objs.size + 1) s1.heap.objs.size (Nat.succ_ne_self _) (Nat.ne_of_lt hal) (Nat.ne_of_gt (Nat.lt_succ_of_lt hal)), ⟨⟨.none, he⟩, ⟨_, hit, rfl, rfl⟩⟩, fun b hb => ?_, q⟩
    have hle : s1.heap.objs.size ≤ b := by
      rcases (show b = s1.heap.objs.size + 1 ∨ b = s1.heap.objs.size by simpa using hb) with z | z
      · rw [z]; exact Nat.le_add_right _ _
      · rw [z]; exact Nat.le_refl _
    exact I1.fpOk hle (I1.hok.fresh hle)
theorem walk_enumT {K : PySem.W.Frag} {a : Addr} {xs : List V} : Walk (Itet K a) xs.length (fun H => SqT K H a xs) (YPair (fun i => some (.int (i : Nat))) (fun i => xs[i]?)) where
  goes := fun i H hi h => ⟨xs, xs[i], h, List.getElem?_eq_getElem hi⟩
  stops := fun H h => ⟨xs, h, rfl⟩
  yields := fun i H x H' hi h ⟨T, y, e1, e2, e3, e4⟩ => ⟨T, .int (i : Nat), y, e1, e2, e3, rfl, e4 xs h⟩
end Wr

set_option Elab.async false
set_option linter.all false
set_option maxRecDepth 100000
set_option maxHeartbeats 4000000
namespace Wr
open PySem PySem.Spec PyProof.Rows L2 Evl

/-! ### flat data -/
def flatP : PyData → Bool
  | .none => true
  | .bool _ => true
  | .int _ => true
  | .str _ => true
  | _ => false
def vOf : PyData → V
  | .bool b => .bl b
  | .int i => .int i
  | .str x => .str x
  | _ => .non
theorem dp_flat {K : PySem.W.Frag} {H : Hp} {v : V} {d : PyData} (h : Dd K H v d) (f : flatP d = true) : v = vOf d := by
  cases h with
  | non => rfl
  | bl b => rfl
  | int i => rfl
  | str x => rfl
  | lst _ _ => cases f
  | tup _ _ _ => cases f
theorem flat_dp {K : PySem.W.Frag} {H : Hp} {d : PyData} (f : flatP d = true) : Dd K H (vOf d) d := by
  cases d with
  | none => exact .non
  | bool b => exact .bl b
  | int i => exact .int i
  | str x => exact .str x
  | list _ => cases f
  | tuple _ => cases f
  | dict _ => cases f
theorem flats_dp {K : PySem.W.Frag} {H : Hp} : ∀ {ds : List PyData}, (∀ d ∈ ds, flatP d = true) → DdAll K H (ds.map vOf) ds
  | [], _ => .nil
  | d :: ds, f => .cons (flat_dp (f d List.mem_cons_self)) (flats_dp fun e he => f e (List.mem_cons_of_mem _ he))
theorem wipe_set1 {σ : L2.St} {n : Nat} {x : Option V} : wipe ((wipe σ [n]).set n x) [n] = wipe σ [n] := by
  show ((σ.set n none).set n x).set n none = σ.set n none
  rw [List.set_set, List.set_set]
section
variable {K : PySem.W.Frag} {b : List Addr} {σ : L2.St} {H H' : Hp} {ta te : TE} {tt : TT} {d : PyData} {ds : List PyData}
/-- a comprehension with one name, a test and flat items, over anything that is walked -/
theorem lc_flat {J : It} {n : Nat} {G : Hp → Prop} {xs : List V} {H2 : Hp} {k : Nat} {g : Nat → PyData} {p : Nat → Bool} (W : Walk J n G (YAt xs)) (hn : n = xs.length) (hl : n < sizeLine) (kn : Kn b H2) (hG : ∀ H3, Ex H2 H3 → G H3)
    (hp : ∀ i x H3, xs[i]? = some x → Ex H2 H3 → EvT tt ((wipe σ [k]).set k (some x)) H3 (p i))
    (he : ∀ i x H3, xs[i]? = some x → p i = true → Ex H2 H3 → ED K b te ((wipe σ [k]).set k (some x)) H3 (g i)) (hf : ∀ i, i < n → p i = true → flatP (g i) = true)
    {Q : VK} (q : ∀ v H3, Ex H2 H3 → Dq K b H3 v (.list (((List.range n).filter p).map g)) → Q v H3) (D : Addr) (hD : H2 D = none) :
    ∃ W : Nat → Nat → Hp → Prop, (∃ m, W 0 m (upd H2 D (.lst []))) ∧ ∀ i m H, W i m H →
      (J.stop i H ∧ Q (.ref D) H) ∨ (J.go i H ∧ ∃ Nx : Hp → Prop, (∀ H', Nx H' → ∃ m', m' < m ∧ W (i + 1) m' H') ∧ ∀ x H', J.yld i H x H' → gName k x (wipe σ [k]) H' fun σ2 H2 => wipe σ2 [k] = wipe σ [k] ∧ tt σ2 H2 fun b H3 =>
        if b = true then te σ2 H3 fun y H4 => ∃ acc, H4 D = some (.lst acc) ∧ acc.length < sizeLine ∧ Nx (upd H4 D (.lst (acc ++ [y]))) else Nx H3) := by
  refine lc_it W (fun i H3 => Ex H2 H3 ∧ H3 D = some (.lst ((((List.range i).filter p).map g).map vOf))) ⟨Ex.new hD, upd_same⟩ (fun i H3 _ h => hG H3 h.1) ?_ ?_
  · intro i x H3 H3' hi ⟨x3, e3⟩ ⟨e1, hx⟩
    subst e1
    refine ⟨wipe_set1, hp i x H3' hx x3 H3' (Ex.refl _) _ fun H4 x4 => ?_⟩
    have er : ∀ c, p i = c → (List.range (i + 1)).filter p = (List.range i).filter p ++ (if c = true then [i] else []) := fun c hc => by
      rw [List.range_succ, List.filter_append]
      cases c with
      | true => simp [hc]
      | false => simp [hc]
    cases hpi : p i with
    | false =>
      rw [if_neg Bool.false_ne_true]
      refine ⟨x3.trans x4, ?_⟩
      rw [er false hpi, if_neg Bool.false_ne_true, List.append_nil]
      exact x4 _ _ e3
    | true =>
      rw [if_pos rfl]
      refine he i x H4 hx hpi (x3.trans x4) H4 (Ex.refl _) _ fun y H5 x5 hy => ?_
      have ey := dp_flat hy (hf i hi hpi)
      refine ⟨_, x5 _ _ (x4 _ _ e3), ?_, Ex.mut (x3.trans (x4.trans x5)) hD, ?_⟩
      · rw [List.length_map, List.length_map]
        have := List.length_filter_le p (List.range i)
        rw [List.length_range] at this
        omega
      · rw [upd_same, er true hpi, if_pos rfl, List.map_append, List.map_append, ey]
        rfl
  · intro H3 ⟨x3, e3⟩
    refine q _ H3 x3 (.lst (.inl (.inl ?_)) (flats_dp fun d hd => ?_))
    · rw [hid_ne (kn.new hD)]
      exact e3
    · obtain ⟨i, hi, rfl⟩ := List.mem_map.mp hd
      obtain ⟨h1, h2⟩ := List.mem_filter.mp hi
      exact hf i (List.mem_range.mp h1) h2
theorem range_map {α β : Type} (xs : List α) (f : α → β) (g : Nat → β) (h : ∀ i x, xs[i]? = some x → g i = f x) : (List.range xs.length).map g = xs.map f := by
  apply List.ext_getElem?
  intro i
  rw [List.getElem?_map, List.getElem?_map]
  by_cases hi : i < xs.length
  · rw [List.getElem?_eq_getElem (by rw [List.length_range]; exact hi), List.getElem?_eq_getElem hi, List.getElem_range]
    simp [h i xs[i] (List.getElem?_eq_getElem hi)]
  · rw [List.getElem?_eq_none (by rw [List.length_range]; omega), List.getElem?_eq_none (by omega)]
    rfl
theorem range_filter_map {α β : Type} (f : α → β) (p : α → Bool) : ∀ (xs : List α) (g : Nat → β) (q : Nat → Bool), (∀ i x, xs[i]? = some x → q i = p x ∧ (p x = true → g i = f x)) → ((List.range xs.length).filter q).map g = (xs.filter p).map f
  | [], _, _, _ => rfl
  | x :: xs, g, q, h => by
    rw [List.length_cons, List.range_succ_eq_map, List.filter_cons]
    obtain ⟨h1, h2⟩ := h 0 x rfl
    have ih := range_filter_map f p xs (fun i => g (i + 1)) (fun i => q (i + 1)) fun i y hy => h (i + 1) y hy
    have e : ((List.range xs.length).map Nat.succ).filter q = ((List.range xs.length).filter fun i => q (i + 1)).map Nat.succ := by
      rw [List.filter_map]
      rfl
    have e2 : (((List.range xs.length).map Nat.succ).filter q).map g = (xs.filter p).map f := by
      rw [e, List.map_map, ← ih]
      rfl
    rw [h1, List.filter_cons]
    cases hp : p x with
    | true =>
      rw [if_pos rfl, if_pos rfl, List.map_cons, List.map_cons, e2, h2 hp]
    | false =>
      rw [if_neg Bool.false_ne_true, if_neg Bool.false_ne_true, e2]
/-- over a tuple, a list: no test -/
theorem et_yes : EvT tYes σ H true := fun H1 x Q q => q H1 (Ex.refl H1)
/-- over a tuple or a list: with a test; items flat -/
theorem ed_lcT {k : Nat} {f : PyData → PyData} {p : PyData → Bool} (kn : Kn b H) (ha : ED K b ta σ H (.tuple ds)) (hl : ds.length < sizeLine)
    (hp : ∀ d v H3, d ∈ ds → Ex H H3 → Dq K b H3 v d → EvT tt ((wipe σ [k]).set k (some v)) H3 (p d))
    (he : ∀ d v H3, d ∈ ds → p d = true → Ex H H3 → Dq K b H3 v d → ED K b te ((wipe σ [k]).set k (some v)) H3 (f d)) (hf : ∀ d ∈ ds, p d = true → flatP (f d) = true) :
    ED K b (tLc (iTup K ta) (gName k) tt te [k]) σ H (.list ((ds.filter p).map f)) := fun H1 x1 Q q =>
  ha H1 x1 _ fun x H2 x2 hx => by
    cases hx with
    | @tup a xs _ h1 _ h2 =>
      have hlen := dps_len h2
      have at_ : ∀ i x, xs[i]? = some x → ∃ d, ds[i]? = some d ∧ d ∈ ds ∧ Dq K b H2 x d := fun i x hx => by
        obtain ⟨d, g1, g2⟩ := dps_at h2 hx
        exact ⟨d, g1, List.mem_of_getElem? g1, g2⟩
      refine ⟨a, rfl, ⟨xs, ex_t hid_le h1⟩, lc_flat (K := K) (g := fun i => f (ds.getD i .none)) (p := fun i => p (ds.getD i .none)) walk_tup rfl (by rw [hlen]; exact hl) (kn.up (x1.trans x2)) (fun H3 x3 => ex_t x3 (ex_t hid_le h1)) ?_ ?_ ?_ ?_⟩
      · intro i x H3 hx x3
        obtain ⟨d, g1, g2, g3⟩ := at_ i x hx
        simp only [List.getD_eq_getElem?_getD, g1, Option.getD_some]
        exact hp d x H3 g2 ((x1.trans x2).trans x3) (g3.up x3)
      · intro i x H3 hx hpi x3
        obtain ⟨d, g1, g2, g3⟩ := at_ i x hx
        simp only [List.getD_eq_getElem?_getD, g1, Option.getD_some] at hpi ⊢
        exact he d x H3 g2 hpi ((x1.trans x2).trans x3) (g3.up x3)
      · intro i hi hpi
        have hi' : i < ds.length := by omega
        have g1 : ds[i]? = some ds[i] := List.getElem?_eq_getElem hi'
        simp only [List.getD_eq_getElem?_getD, g1, Option.getD_some] at hpi ⊢
        exact hf _ (List.getElem_mem hi') hpi
      · intro v H3 x3 hv
        refine q v H3 (x2.trans x3) ?_
        rw [hlen] at hv
        rw [range_filter_map f p ds _ _ fun i d hd => ⟨by simp only [List.getD_eq_getElem?_getD, hd, Option.getD_some], fun _ => by simp only [List.getD_eq_getElem?_getD, hd, Option.getD_some]⟩] at hv
        exact hv
theorem ed_lcL {k : Nat} {f : PyData → PyData} {p : PyData → Bool} (kn : Kn b H) (ha : ED K b ta σ H (.list ds)) (hl : ds.length < sizeLine)
    (hp : ∀ d v H3, d ∈ ds → Ex H H3 → Dq K b H3 v d → EvT tt ((wipe σ [k]).set k (some v)) H3 (p d))
    (he : ∀ d v H3, d ∈ ds → p d = true → Ex H H3 → Dq K b H3 v d → ED K b te ((wipe σ [k]).set k (some v)) H3 (f d)) (hf : ∀ d ∈ ds, p d = true → flatP (f d) = true) :
    ED K b (tLc (iList K ta) (gName k) tt te [k]) σ H (.list ((ds.filter p).map f)) := fun H1 x1 Q q =>
  ha H1 x1 _ fun x H2 x2 hx => by
    cases hx with
    | @lst a xs _ h1 h2 =>
      have hlen := dps_len h2
      have at_ : ∀ i x, xs[i]? = some x → ∃ d, ds[i]? = some d ∧ d ∈ ds ∧ Dq K b H2 x d := fun i x hx => by
        obtain ⟨d, g1, g2⟩ := dps_at h2 hx
        exact ⟨d, g1, List.mem_of_getElem? g1, g2⟩
      refine ⟨a, rfl, ⟨xs, ex_l hid_le h1⟩, lc_flat (K := K) (g := fun i => f (ds.getD i .none)) (p := fun i => p (ds.getD i .none)) walk_list rfl (by rw [hlen]; exact hl) (kn.up (x1.trans x2)) (fun H3 x3 => ex_l x3 (ex_l hid_le h1)) ?_ ?_ ?_ ?_⟩
      · intro i x H3 hx x3
        obtain ⟨d, g1, g2, g3⟩ := at_ i x hx
        simp only [List.getD_eq_getElem?_getD, g1, Option.getD_some]
        exact hp d x H3 g2 ((x1.trans x2).trans x3) (g3.up x3)
      · intro i x H3 hx hpi x3
        obtain ⟨d, g1, g2, g3⟩ := at_ i x hx
        simp only [List.getD_eq_getElem?_getD, g1, Option.getD_some] at hpi ⊢
        exact he d x H3 g2 hpi ((x1.trans x2).trans x3) (g3.up x3)
      · intro i hi hpi
        have hi' : i < ds.length := by omega
        have g1 : ds[i]? = some ds[i] := List.getElem?_eq_getElem hi'
        simp only [List.getD_eq_getElem?_getD, g1, Option.getD_some] at hpi ⊢
        exact hf _ (List.getElem_mem hi') hpi
      · intro v H3 x3 hv
        refine q v H3 (x2.trans x3) ?_
        rw [hlen] at hv
        rw [range_filter_map f p ds _ _ fun i d hd => ⟨by simp only [List.getD_eq_getElem?_getD, hd, Option.getD_some], fun _ => by simp only [List.getD_eq_getElem?_getD, hd, Option.getD_some]⟩] at hv
        exact hv
theorem filter_yes {α β : Type} (xs : List α) (f : α → β) : (xs.filter fun _ => true).map f = xs.map f := by
  rw [List.filter_eq_self.mpr fun _ _ => rfl]
theorem ed_lcT1 {k : Nat} {f : PyData → PyData} (kn : Kn b H) (ha : ED K b ta σ H (.tuple ds)) (hl : ds.length < sizeLine)
    (he : ∀ d v H3, d ∈ ds → Ex H H3 → Dq K b H3 v d → ED K b te ((wipe σ [k]).set k (some v)) H3 (f d)) (hf : ∀ d ∈ ds, flatP (f d) = true) :
    ED K b (tLc (iTup K ta) (gName k) tYes te [k]) σ H (.list (ds.map f)) :=
  (ed_lcT (p := fun _ => true) kn ha hl (fun _ _ _ _ _ _ => et_yes) (fun d v H3 h _ x hd => he d v H3 h x hd) fun d h _ => hf d h).to (by rw [filter_yes])
theorem ed_lcL1 {k : Nat} {f : PyData → PyData} (kn : Kn b H) (ha : ED K b ta σ H (.list ds)) (hl : ds.length < sizeLine)
    (he : ∀ d v H3, d ∈ ds → Ex H H3 → Dq K b H3 v d → ED K b te ((wipe σ [k]).set k (some v)) H3 (f d)) (hf : ∀ d ∈ ds, flatP (f d) = true) :
    ED K b (tLc (iList K ta) (gName k) tYes te [k]) σ H (.list (ds.map f)) :=
  (ed_lcL (p := fun _ => true) kn ha hl (fun _ _ _ _ _ _ => et_yes) (fun d v H3 h _ x hd => he d v H3 h x hd) fun d h _ => hf d h).to (by rw [filter_yes])
/-- over the signs of a text, with a test -/
theorem ed_lcS {k : Nat} {z : Str} {p : Nat → Bool} (hk : k < σ.length) (kn : Kn b H) (ha : ED K b ta σ H (.str z)) (hl : z.length < sizeLine)
    (hp : ∀ c H3, c ∈ z.cps.toList → Ex H H3 → EvT tt ((wipe σ [k]).set k (some (.str ⟨#[c]⟩))) H3 (p c)) :
    ED K b (tLc (iStr ta) (gName k) tt (tVar k) [k]) σ H (.list ((z.cps.toList.filter p).map fun c => .str ⟨#[c]⟩)) := fun H1 x1 Q q =>
  ha H1 x1 _ fun x H2 x2 hx => by
    cases hx
    have hsz : z.cps.size = (z.cps.toList.map fun c => V.str ⟨#[c]⟩).length := by rw [List.length_map, Array.length_toList]
    have wk : Walk (Its z) z.cps.size (fun _ => True) (YAt (z.cps.toList.map fun c => V.str ⟨#[c]⟩)) := walk_str.mono (fun _ _ => trivial) fun i H x H' _ _ ⟨e, c, h1, h2⟩ => ⟨e, by
      rw [List.getElem?_map, Array.getElem?_toList, h1, h2]
      rfl⟩
    have at_ : ∀ i x, (z.cps.toList.map fun c => V.str ⟨#[c]⟩)[i]? = some x → ∃ c, z.cps.toList[i]? = some c ∧ x = V.str ⟨#[c]⟩ := fun i x hx => by
      rw [List.getElem?_map] at hx
      cases e : z.cps.toList[i]? with
      | none => rw [e] at hx; cases hx
      | some c =>
        rw [e] at hx
        exact ⟨c, e, (Option.some.inj hx).symm⟩
    refine ⟨z, rfl, lc_flat (K := K) (g := fun i => .str ⟨#[z.cps.toList.getD i 0]⟩) (p := fun i => p (z.cps.toList.getD i 0)) wk hsz (show z.cps.size < _ from hl) (kn.up (x1.trans x2)) (fun _ _ => trivial) ?_ ?_ ?_ ?_⟩
    · intro i x H3 hx x3
      obtain ⟨c, g1, rfl⟩ := at_ i x hx
      simp only [List.getD_eq_getElem?_getD, g1, Option.getD_some]
      exact hp c H3 (List.mem_of_getElem? g1) ((x1.trans x2).trans x3)
    · intro i x H3 hx hpi x3
      obtain ⟨c, g1, rfl⟩ := at_ i x hx
      simp only [List.getD_eq_getElem?_getD, g1, Option.getD_some]
      refine ed_var ?_ (.str _)
      show ((σ.set k none).set k _)[k]? = _
      rw [List.getElem?_set_self (by rw [List.length_set]; exact hk)]
    · intro i hi _
      rfl
    · intro v H3 x3 hv
      refine q v H3 (x2.trans x3) ?_
      have e0 : z.cps.size = z.cps.toList.length := by rw [Array.length_toList]
      rw [e0] at hv
      rw [range_filter_map (fun c => PyData.str ⟨#[c]⟩) p z.cps.toList _ _ fun i d hd => ⟨by simp only [List.getD_eq_getElem?_getD, hd, Option.getD_some], fun _ => by simp only [List.getD_eq_getElem?_getD, hd, Option.getD_some]⟩] at hv
      exact hv
end
end Wr

set_option Elab.async false
set_option linter.all false
set_option maxRecDepth 100000
set_option maxHeartbeats 8000000
namespace Wr
open PySem PySem.Spec PyProof.Rows L2 Evl

/-! ### set(texts) -/
/-- each once, as first met -/
def uqStep (acc : List Str) (x : Str) : List Str := if x ∈ acc then acc else acc ++ [x]
def uq (xs : List Str) : List Str := xs.foldl uqStep []
theorem uq_snoc (xs : List Str) (x : Str) : uq (xs ++ [x]) = uqStep (uq xs) x := by
  unfold uq
  rw [List.foldl_append]
  rfl
theorem uq_le : ∀ (xs acc : List Str), (xs.foldl uqStep acc).length ≤ acc.length + xs.length
  | [], acc => Nat.le_refl _
  | x :: xs, acc => by
    have ih := uq_le xs (uqStep acc x)
    have h1 : (uqStep acc x).length ≤ acc.length + 1 := by
      unfold uqStep
      split
      · omega
      · rw [List.length_append]; exact Nat.le_refl _
    rw [List.foldl_cons, List.length_cons]
    omega
theorem uq_length_le (xs : List Str) : (uq xs).length ≤ xs.length := by
  have := uq_le xs []
  rw [List.length_nil, Nat.zero_add] at this
  exact this
theorem uq_mem_acc : ∀ (xs acc : List Str) (y : Str), y ∈ xs.foldl uqStep acc ↔ y ∈ acc ∨ y ∈ xs
  | [], acc, y => by simp
  | x :: xs, acc, y => by
    rw [List.foldl_cons, uq_mem_acc xs (uqStep acc x) y, List.mem_cons]
    unfold uqStep
    split
    · constructor
      · rintro (h | h)
        · exact .inl h
        · exact .inr (.inr h)
      · rintro (h | rfl | h)
        · exact .inl h
        · exact .inl (by assumption)
        · exact .inr h
    · rw [List.mem_append, List.mem_singleton]
      constructor
      · rintro ((h | h) | h)
        · exact .inl h
        · exact .inr (.inl h)
        · exact .inr (.inr h)
      · rintro (h | h | h)
        · exact .inl (.inl h)
        · exact .inl (.inr h)
        · exact .inr h
theorem uq_mem (xs : List Str) (y : Str) : y ∈ uq xs ↔ y ∈ xs := by
  unfold uq
  rw [uq_mem_acc]
  simp
theorem uq_nodup_acc : ∀ (xs acc : List Str), acc.Nodup → (xs.foldl uqStep acc).Nodup
  | [], acc, h => h
  | x :: xs, acc, h => by
    rw [List.foldl_cons]
    refine uq_nodup_acc xs _ ?_
    unfold uqStep
    split
    · exact h
    · rename_i hx
      rw [List.nodup_append]
      refine ⟨h, by simp, fun a ha c hc => ?_⟩
      rw [List.mem_singleton] at hc
      intro e
      exact hx (hc ▸ e ▸ ha)
theorem uq_nodup (xs : List Str) : (uq xs).Nodup := uq_nodup_acc xs [] List.nodup_nil
theorem uq_all : ∀ (xs acc : List Str), (acc ++ xs).Nodup → xs.foldl uqStep acc = acc ++ xs
  | [], acc, _ => by simp
  | x :: xs, acc, h => by
    rw [List.foldl_cons]
    have hx : x ∉ acc := fun hm => by
      rw [List.nodup_append] at h
      exact h.2.2 x hm x List.mem_cons_self rfl
    have e : uqStep acc x = acc ++ [x] := if_neg hx
    rw [e, uq_all xs (acc ++ [x]) (by rw [List.append_assoc]; exact h), List.append_assoc]
    rfl
/-- as many as there are, just where no text stands twice -/
theorem uq_len_iff (xs : List Str) : (uq xs).length = xs.length ↔ xs.Nodup := by
  constructor
  · intro h
    have h1 := uq_nodup xs
    have sub : ∀ y ∈ xs, y ∈ uq xs := fun y hy => (uq_mem xs y).mpr hy
    by_cases hn : xs.Nodup
    · exact hn
    · exfalso
      have key : ∀ (xs acc : List Str), ¬ xs.Nodup → (xs.foldl uqStep acc).length < acc.length + xs.length := by
        intro xs
        induction xs with
        | nil => intro acc h; exact absurd List.nodup_nil h
        | cons x r ih =>
          intro acc h
          rw [List.foldl_cons, List.length_cons]
          by_cases hx : x ∈ acc
          · have e : uqStep acc x = acc := if_pos hx
            rw [e]
            have := uq_le r acc
            omega
          · have e : uqStep acc x = acc ++ [x] := if_neg hx
            by_cases hr : r.Nodup
            · have hxr : x ∈ r := by
                by_cases q : x ∈ r
                · exact q
                · exact absurd (List.nodup_cons.mpr ⟨q, hr⟩) h
              have low : ∀ (r acc : List Str) (x : Str), x ∈ acc → x ∈ r → (r.foldl uqStep acc).length < acc.length + r.length := by
                intro r
                induction r with
                | nil => intro acc x _ hm; cases hm
                | cons y r ih2 =>
                  intro acc x ha hm
                  rw [List.foldl_cons, List.length_cons]
                  by_cases hy : y ∈ acc
                  · have e : uqStep acc y = acc := if_pos hy
                    rw [e]
                    have := uq_le r acc
                    omega
                  · have e : uqStep acc y = acc ++ [y] := if_neg hy
                    rcases List.mem_cons.mp hm with rfl | hm
                    · exact absurd ha hy
                    · have := ih2 (acc ++ [y]) x (List.mem_append_left _ ha) hm
                      rw [e]
                      rw [List.length_append, List.length_singleton] at this
                      omega
              rw [e]
              have := low r (acc ++ [x]) x (by simp) hxr
              rw [List.length_append, List.length_singleton] at this
              omega
            · have := ih (acc ++ [x]) hr
              rw [e]
              rw [List.length_append, List.length_singleton] at this
              omega
      have := key xs [] hn
      rw [List.length_nil, Nat.zero_add] at this
      unfold uq at h
      omega
  · intro h
    unfold uq
    rw [uq_all xs [] h]
    rfl
def inK (L : List Str) (k : Key) : Bool := L.any fun x => decide (k = Sum.inr x)
theorem inK_step (L : List Str) (x : Str) : (fun k => inK L k || decide (k = (Sum.inr x : Key))) = inK (uqStep L x) := by
  funext k
  unfold uqStep inK
  split
  · rename_i hx
    by_cases e : k = Sum.inr x
    · have : (L.any fun x => decide (k = Sum.inr x)) = true := List.any_eq_true.mpr ⟨x, hx, decide_eq_true e⟩
      rw [this]
      rfl
    · rw [decide_eq_false e, Bool.or_false]
  · rw [List.any_append]
    simp
theorem inK_self (L : List Str) (x : Str) : inK L (Sum.inr x) = decide (x ∈ L) := by
  unfold inK
  by_cases h : x ∈ L
  · rw [decide_eq_true h]
    exact List.any_eq_true.mpr ⟨x, h, decide_eq_true rfl⟩
  · rw [decide_eq_false h]
    apply Bool.eq_false_iff.mpr
    intro q
    obtain ⟨y, hy, e⟩ := List.any_eq_true.mp q
    have e1 := of_decide_eq_true e
    cases e1
    exact h hy
section
variable {prog : Program} {w : World} {A : Around} {R : Result → Shared → Prop} {I : Addr} {fp wr : List Addr} {G : Array GenState → Array GenState → Prop} {n : Nat} {P : Nat → Value → Prop} {St : Nat → Shared → Prop}
/-- the loop that fills a set of texts -/
theorem fill_texts (W : WalksS prog w A.in1 I fp wr G n P St) (S : Addr) (hSf : S ∉ fp) (xs : List Str) (hsz : xs.length = n) (hn1 : n + 1 < scanBound)
    (hval : ∀ i v, P i v → ∃ x t, xs[i]? = some x ∧ v = .str x t) : ∀ (k i : Nat) (s : Shared), n - i = k → i ≤ n → St i s →
      s.heap.SetOf (mixKind prog w) S (inK (uq (xs.take i))) (uq (xs.take i)).length →
      (∀ s', Moved (S :: wr) G s s' → s'.heap.SetOf (mixKind prog w) S (inK (uq xs)) (uq xs).length → R (.ok (.ret .none)) s') →
      codeAny (model prog w) A (.builtin "set.update.loop" ⟨[.ref S, .ref I], []⟩) R s := by
  have out : S ∉ wr := fun h => hSf (W.sub _ h)
  have more : ∀ c ∈ wr, c ∈ S :: wr := fun c hc => List.mem_cons_of_mem _ hc
  intro k
  induction k with
  | zero =>
    intro i s hk hi hst hS hR
    obtain rfl : i = n := by omega
    refine codeAny_builtin PyProof.Rows.F.entry_set_update_loop ?_
    rw [Around.under_plainId PyProof.Rows.F.plain_set_update_loop _]
    show wpAny _ A.in1 (pyNext (.ref I) >>= _) _ _ s
    refine wpAny_bind (W.done s _ _ hst fun s' hm => ?_)
    show wpAny _ A.in1 (ret Value.none) _ _ s'
    refine wpAny_pure (hR s' (hm.mono more) ?_)
    rw [List.take_of_length_le (by omega)] at hS
    obtain ⟨o, es, ep, t, ho, rest⟩ := hS
    exact ⟨o, es, ep, t, hm.heap S _ out ho, rest⟩
  | succ k ih =>
    intro i s hk hi hst hS hR
    have hlt : i < n := by omega
    refine codeAny_builtin PyProof.Rows.F.entry_set_update_loop ?_
    rw [Around.under_plainId PyProof.Rows.F.plain_set_update_loop _]
    show wpAny _ A.in1 (pyNext (.ref I) >>= _) _ _ s
    refine wpAny_bind (W.item i s _ _ hlt hst fun v s' hP hst' hm => ?_)
    obtain ⟨x, t, hx, rfl⟩ := hval i v hP
    have hS' : s'.heap.SetOf (mixKind prog w) S (inK (uq (xs.take i))) (uq (xs.take i)).length := by
      obtain ⟨o, es, ep, tb, ho, rest⟩ := hS
      exact ⟨o, es, ep, tb, hm.heap S _ out ho, rest⟩
    show wpAny _ A.in1 (holding [Value.str x t] (setAdd S (.str x t)) >>= _) _ _ s'
    refine wpAny_bind (wpAny_holding ?_)
    unfold setAdd
    refine wpAny_holding (wpAny_bind ((mixKind prog w).pyHash (k := Sum.inr x) (mixKind_str _ _ _ _) ?_))
    have room : (uq (xs.take i)).length + 1 < scanBound := by
      have h1 := uq_length_le (xs.take i)
      rw [List.length_take] at h1
      omega
    refine wpAny_setAddHashed_of (knd := mixKind prog w) (k := Sum.inr x) (s := { s' with toks := s'.toks + 1 }) (mixKind_str _ _ _ _) rfl hS' room fun h' hsb hS2 => ?_
    have et : xs.take (i + 1) = xs.take i ++ [x] := by
      rw [List.take_add_one, hx]
      rfl
    have hSi : h'.SetOf (mixKind prog w) S (inK (uq (xs.take (i + 1)))) (uq (xs.take (i + 1))).length := by
      rw [inK_step, inK_self] at hS2
      rw [et, uq_snoc]
      have el : (if decide (x ∈ uq (xs.take i)) = true then (uq (xs.take i)).length else (uq (xs.take i)).length + 1) = (uqStep (uq (xs.take i)) x).length := by
        unfold uqStep
        by_cases h : x ∈ uq (xs.take i)
        · rw [decide_eq_true h, if_pos rfl, if_pos h]
        · rw [decide_eq_false h, if_neg Bool.false_ne_true, if_neg h, List.length_append]
          rfl
      rw [el] at hS2
      exact hS2
    refine wpAny_pure ⟨plainId_quiet PyProof.Rows.F.plain_set_update_loop _, ih (i + 1) _ (by omega) hlt (W.frame _ s' _ _ hst' (Nat.le_succ _) fun c hc o e => ?_) hSi fun s'' hm'' hS'' => ?_⟩
    · have nc : c ≠ S := fun h => hSf (h ▸ hc)
      rw [hsb.2 c nc]
      exact e
    · refine hR s'' (Moved.trans W.gtrans ((hm.mono more).then_heap (Nat.le_succ _) fun c o hc e => ?_) hm'') hS''
      have nc : c ≠ S := fun h => hc (by rw [h]; exact List.mem_cons_self)
      rw [hsb.2 c nc]
      exact e
end
end Wr

set_option Elab.async false
set_option linter.all false
set_option maxRecDepth 100000
set_option maxHeartbeats 8000000
namespace Wr
open PySem PySem.Spec PyProof.Rows L2 Evl
abbrev freshSet (led : Bool) : Obj := { cls := .type "set", dict := none, data := .set #[] 0 (.fresh 0 0 led) }
section
variable {prog : Program} {w : World} {A : Around} {E : Value → Shared → Prop} {s : Shared}
/-- what set(v) asks of v: its type, its iterator -/
structure SetSrc (prog : Program) (w : World) (T : String) (l : Addr) (xs : List Str) (s : Shared) : Prop where
  sub1 : isSubtype (.type T) (.type "set") = pure false
  sub2 : isSubtype (.type T) (.type "frozenset") = pure false
  nd : (Value.type T == Value.type "dict") = false
  ob : ∃ o, s.heap.get? l = some o ∧ o.cls = .type T
  it : ∀ (A : Around) (led : Bool) (Q : Value → Shared → Prop) (E : Value → Shared → Prop), A.handled = none →
    (∀ (s2 : Shared) (I : Addr) (fp wr : List Addr) (G : Array GenState → Array GenState → Prop) (P : Nat → Value → Prop) (St : Nat → Shared → Prop), (∀ a, G a a) → (∀ a b, G a b → b = a) → WalksS prog w A.in1 I fp wr G xs.length P St → St 0 s2 →
      s.heap.objs.size ∉ fp → (∀ b o, (s.heap.push (freshSet led)).get? b = some o → s2.heap.get? b = some o) → (∀ b ∈ wr, s.heap.objs.size < b) →
      (∀ i v, P i v → ∃ x t, xs[i]? = some x ∧ v = .str x t) → s2.gens = s.gens ∧ s2.drawn = s.drawn ∧ s2.os = s.os → Q (.ref I) s2) →
    wpAny (model prog w) A (pyIter (.ref l)) Q E { s with heap := s.heap.push (freshSet led) }
theorem set_call {T : String} {l : Addr} {xs : List Str} {Q : Value → Shared → Prop} (hh : A.handled = none) (src : SetSrc prog w T l xs s) (hn : xs.length + 1 < scanBound)
    (h : ∀ (h' : Heap) (tk : Nat), h'.SetOf (mixKind prog w) s.heap.objs.size (inK (uq xs)) (uq xs).length →
      (∀ b o, b < s.heap.objs.size → s.heap.get? b = some o → h'.get? b = some o) → Q (.ref s.heap.objs.size) { s with heap := h', toks := tk }) :
    wpAny (model prog w) A (call (.type "set") [.ref l]) Q E s := by
  obtain ⟨c, tl, hmro⟩ := PySem.F.called_set.mro
  have m1 := PySem.F.called_set.made
  have m2 := PySem.F.called_set.sub
  refine wpAny_call (codeAny_of_tree ?_)
  show wpAny _ _ (callAny (.type "set") _) _ _ _
  refine wpAny_pure ⟨Code.quiet_builtin _ (by decide +kernel), codeAny_builtin PySem.F.entry_type_call ?_⟩
  rw [Around.under_plain (weight_type_call_type "set" [.ref l] []) rfl]
  have m3 := PySem.F.called_set.notType
  have m4 := PySem.F.called_set.canCreate
  have m5 := PySem.F.typeCall_set_1 (.ref l)
  repeat (any_goals (first | assumption | wp_step))
  refine codeAny_mono (code_set_new_1 (.ref l) (E := E) (Q₁ := fun obj s₁ => ∃ led : Bool, obj = .ref s.heap.objs.size ∧
    s₁ = { s with heap := s.heap.push (freshSet led) }) fun led => ⟨led, rfl, rfl⟩) fun r s₁ hr => ?_
  cases r with
  | error e => exact hr
  | ok fl =>
    cases fl with
    | ret obj =>
      obtain ⟨led, rfl, rfl⟩ := hr
      have hS : (s.heap.push (freshSet led)).get? s.heap.objs.size = some (freshSet led) := Heap.get?_push_size _ rfl
      have hT : Shared.TypeIs { s with heap := s.heap.push (freshSet led) } (.ref s.heap.objs.size) "set" := ⟨_, hS, rfl⟩
      have m6 := PySem.F.called_set.init.lookup
      have m7 := PySem.F.called_set.init.bind (.ref s.heap.objs.size)
      repeat (any_goals (first | assumption | wp_step))
      refine codeAny_mono (codeAny_call_builtin (R := wants (fun r s₂ => r = .none ∧ ∃ h' tk, s₂ = { s with heap := h', toks := tk } ∧
          h'.SetOf (mixKind prog w) s.heap.objs.size (inK (uq xs)) (uq xs).length ∧ ∀ b o, b < s.heap.objs.size → s.heap.get? b = some o → h'.get? b = some o) E)
        PySem.F.called_set.init.plain PySem.F.entry_set_init (check_set_init_1 hT ?_)) fun r₂ s₂ hr₂ => ?_
      · obtain ⟨⟨ocls, odict, odata, oslots⟩, hol, hcl⟩ := src.ob
        simp only at hcl
        subst hcl
        have hol' : (s.heap.push (freshSet led)).get? l = some { cls := .type T, dict := odict, data := odata, slots := oslots } := Heap.get?_push_of_some _ hol
        have m8 := src.sub1
        have m9 := src.sub2
        have m10 := src.nd
        unfold Builtin.«set.__init__» noKeywords Builtin.Frozenset.updateFrom
        generalize hPI : pyIter = PI
        wp_walk
        subst hPI
        refine src.it _ led _ _ (by simp [hh]) fun s2 I fp wr G P St g1 g2 W st hS2 k2 hw hval hsame => ?_
        refine wpAny_bind (wpAny_runValue ?_)
        refine fill_texts W s.heap.objs.size hS2 xs rfl hn hval (xs.length - 0) 0 _ (by omega) (Nat.zero_le _) st ?hS0 ?hR
        case hS0 =>
          have g0 : s2.heap.get? s.heap.objs.size = some (freshSet led) := k2 _ _ hS
          show s2.heap.SetOf (mixKind prog w) s.heap.objs.size (fun _ => false) 0
          exact ⟨_, #[], 0, _, g0, ⟨rfl, rfl, rfl⟩, rfl, fun e he => by simp at he, fun k => by simp, by decide, by rfl, rfl⟩
        case hR =>
          intro s' hm hS'
          obtain ⟨hp', g', d', tk', os'⟩ := s'
          obtain ⟨q1, q2, q3⟩ := hsame
          have eg : g' = s.gens := (g2 _ _ hm.gens).trans q1
          have ed : d' = s.drawn := hm.drawn.trans q2
          have eo : os' = s.os := hm.os.trans q3
          subst eg ed eo
          refine wpAny_pure ?_
          show wpAny _ _ (ret Value.none) _ _ _
          refine wpAny_pure ⟨rfl, hp', tk', rfl, hS', fun b o hb e => ?_⟩
          refine hm.heap b o (fun hmem => ?_) (k2 b o (Heap.get?_push_of_some _ e))
          rcases List.mem_cons.mp hmem with z | z
          · exact absurd (z ▸ hb) (Nat.lt_irrefl _)
          · exact absurd (hw b z) (Nat.not_lt.mpr (Nat.le_of_lt hb))
      · cases r₂ with
        | error e => exact hr₂
        | ok fl₂ =>
          cases fl₂ with
          | ret r =>
            obtain ⟨rfl, h', tk, rfl, hS', hk'⟩ := hr₂
            repeat (any_goals (first | assumption | wp_step))
            exact h _ _ hS' hk'
          | _ => exact hr₂.elim
    | _ => exact hr.elim
end
end Wr

set_option Elab.async false
set_option linter.all false
set_option maxRecDepth 100000
set_option maxHeartbeats 8000000
namespace Wr
open PySem PySem.Spec PyProof.Rows L2 Evl
theorem strs_val : ∀ {xs : List Str} {us : List Value} {i : Nat} {v : Value}, Vals (xs.map V.str) us → us[i]? = some v → ∃ x t, xs[i]? = some x ∧ v = .str x t
  | [], _, i, v, .nil, h => by simp at h
  | x :: xs, _, 0, v, .cons r _, h => by
    obtain ⟨t, e⟩ := r
    have h' := Option.some.inj h
    exact ⟨x, t, rfl, by rw [← h', e]⟩
  | x :: xs, _, i + 1, v, .cons _ r, h => by
    obtain ⟨y, t, h1, h2⟩ := strs_val r (i := i) (v := v) h
    exact ⟨y, t, h1, h2⟩
section
variable {prog : Program} {w : World} {A : Around} {E : Value → Shared → Prop} {s : Shared}
theorem src_list {l : Addr} {items : Array Value} {xs : List Str} (hl : s.heap.IsList l items) (hi : Vals (xs.map V.str) items.toList) : SetSrc prog w "list" l xs s where
  sub1 := PySem.F.sub_list_set
  sub2 := PySem.F.sub_list_frozenset
  nd := by decide
  ob := by
    obtain ⟨o, ho, hc, _⟩ := hl
    exact ⟨o, ho, hc⟩
  it := fun A led Q E hh k => by
    have hl1 : (s.heap.push (freshSet led)).IsList l items := by
      obtain ⟨o, ho, r⟩ := hl
      exact ⟨o, Heap.get?_push_of_some _ ho, r⟩
    have hls : l < s.heap.objs.size := by
      obtain ⟨o, ho, _⟩ := hl
      exact Heap.lt_size ho
    refine wpAny_pyIter_list hl1 ?_
    have hz : (s.heap.push (freshSet led)).objs.size = s.heap.objs.size + 1 := Heap.size_push ..
    have hne : l ≠ (s.heap.push (freshSet led)).objs.size := by
      rw [hz]
      exact Nat.ne_of_lt (Nat.lt_succ_of_lt hls)
    have hlen : xs.length = items.size := by
      have := hi.length
      rw [List.length_map, Array.length_toList] at this
      exact this
    have W := ((Walks.list (prog := prog) (w := w) (A := A.in1) hh _ l hne items).toS)
    rw [← hlen] at W
    refine k _ _ _ _ (fun a b => b = a) _ _ (fun _ => rfl) (fun _ _ e => e) W ?_ ?_ (fun b o e => Heap.get?_push_of_some _ e) ?_ ?_ ⟨rfl, rfl, rfl⟩
    · exact ⟨⟨_, Heap.get?_push_size _ rfl, rfl, rfl⟩, hl1.push _⟩
    · rw [hz]
      simp only [List.mem_cons, List.not_mem_nil, or_false, not_or]
      exact ⟨Nat.ne_of_lt (Nat.lt_succ_self _), Nat.ne_of_gt hls⟩
    · intro b hb
      rw [hz] at hb
      rw [List.mem_singleton.mp hb]
      exact Nat.lt_succ_self _
    · intro i v hv
      have hv' : items.toList[i]? = some v := by
        rw [Array.getElem?_toList]
        exact hv
      exact strs_val hi hv'
theorem src_tuple {l : Addr} {items : Array Value} {xs : List Str} (hl : s.heap.IsTuple l items) (hi : Vals (xs.map V.str) items.toList) : SetSrc prog w "tuple" l xs s where
  sub1 := PySem.F.sub_tuple_set
  sub2 := PySem.F.sub_tuple_frozenset
  nd := by decide
  ob := by
    obtain ⟨o, ho, hc, _⟩ := hl
    exact ⟨o, ho, hc⟩
  it := fun A led Q E hh k => by
    have hl1 : (s.heap.push (freshSet led)).IsTuple l items := by
      obtain ⟨o, ho, r⟩ := hl
      exact ⟨o, Heap.get?_push_of_some _ ho, r⟩
    have hls : l < s.heap.objs.size := by
      obtain ⟨o, ho, _⟩ := hl
      exact Heap.lt_size ho
    refine wpAny_pyIter_tuple hl1 ?_
    have hz : (s.heap.push (freshSet led)).objs.size = s.heap.objs.size + 1 := Heap.size_push ..
    have hne : l ≠ (s.heap.push (freshSet led)).objs.size := by
      rw [hz]
      exact Nat.ne_of_lt (Nat.lt_succ_of_lt hls)
    have hlen : xs.length = items.size := by
      have := hi.length
      rw [List.length_map, Array.length_toList] at this
      exact this
    have W := ((Walks.tuple (prog := prog) (w := w) (A := A.in1) hh _ l hne items).toS)
    rw [← hlen] at W
    refine k _ _ _ _ (fun a b => b = a) _ _ (fun _ => rfl) (fun _ _ e => e) W ?_ ?_ (fun b o e => Heap.get?_push_of_some _ e) ?_ ?_ ⟨rfl, rfl, rfl⟩
    · exact ⟨⟨_, Heap.get?_push_size _ rfl, rfl, rfl⟩, hl1.push _⟩
    · rw [hz]
      simp only [List.mem_cons, List.not_mem_nil, or_false, not_or]
      exact ⟨Nat.ne_of_lt (Nat.lt_succ_self _), Nat.ne_of_gt hls⟩
    · intro b hb
      rw [hz] at hb
      rw [List.mem_singleton.mp hb]
      exact Nat.lt_succ_self _
    · intro i v hv
      have hv' : items.toList[i]? = some v := by
        rw [Array.getElem?_toList]
        exact hv
      exact strs_val hi hv'
end
/-! ### the rules -/
def rSetS (K : PySem.W.Frag) (P : Program) (w : World) : List V → Hp → VK → Prop := fun vs H Q => ∃ l, ∃ xs : List Str, vs = [.ref l] ∧ (SqL K H l (xs.map V.str) ∨ SqT K H l (xs.map V.str)) ∧ xs.length ≤ 1000 ∧
  ∀ p, H p = none → Q (.ref p) (upd H p (SetK P w p (inK (uq xs)) (uq xs).length))
theorem cr_setS {X : Cx} (hc : X.calm = true) : CallR X (.type "set") (rSetS X.K X.prog X.w) := by
  intro pins s σ H vs us Q I r h
  obtain ⟨l, xs, rfl, hq, hl, q⟩ := h
  rw [Vals.ref1 r]
  have hsc : xs.length + 1 < scanBound := by unfold scanBound; omega
  have fin : ∀ (h' : Heap) (tk : Nat), h'.SetOf (mixKind X.prog X.w) s.heap.objs.size (inK (uq xs)) (uq xs).length →
      (∀ b o, b < s.heap.objs.size → s.heap.get? b = some o → h'.get? b = some o) → EP X pins σ Q (.ref s.heap.objs.size) { s with heap := h', toks := tk } := fun h' tk new k =>
    ⟨.ref _, upd H s.heap.objs.size (SetK X.prog X.w s.heap.objs.size (inK (uq xs)) (uq xs).length), I.laid (t' := tk) (fun b u e => k b u (Heap.lt_size e) e) (Nat.le_refl _) (setK_new new), rfl, q _ (I.hok.fresh (Nat.le_refl _))⟩
  rcases hq with hq | hq
  · obtain ⟨its, rv, pl, hz⟩ := I.list hq
    exact set_call (I.ok.hd hc) (src_list pl.isList (by simpa using rv)) hsc fin
  · obtain ⟨its, rv, pl, hz⟩ := I.tuple hq
    exact set_call (I.ok.hd hc) (src_tuple pl (by simpa using rv)) hsc fin
def rLenK (P : Program) (w : World) : List V → Hp → VK → Prop := fun vs H Q => ∃ a S n, vs = [.ref a] ∧ H a = some (SetK P w a S n) ∧ n ≤ 1000000 ∧ Q (.int (n : Nat)) H
theorem call_lenK {X : Cx} : CallR X (.builtin "len") (rLenK X.prog X.w) := by
  intro pins s σ H vs us Q I r h
  obtain ⟨a, S, n, rfl, ha, hn, q⟩ := h
  rw [Vals.ref1 r]
  obtain ⟨o, es, ep, t, ho, hex, hd, _, _, _, hf, hn'⟩ := setK_get I ha
  refine call_len_set ho hex hd hf (by rw [hn']; omega) ⟨.int (n : Nat), H, I.tok _, ⟨_, by rw [hn']⟩, q⟩
section
variable {K : PySem.W.Frag} {b : List Addr} {σ : L2.St} {H H' : Hp} {ta : TE} {P : Program} {w : World}
theorem ed_lenSet {d : PyData} {xs : List Str} (ha : ED K b ta σ H d) (hd : d = .list (xs.map PyData.str) ∨ d = .tuple (xs.map PyData.str)) (hl : xs.length ≤ 1000) :
    ED K b (tCB (rLenK P w) (tCons (tCB (rSetS K P w) (tCons ta tNil)) tNil)) σ H (.int ((uq xs).length : Nat)) := fun H1 x1 Q q =>
  ha H1 x1 _ fun x H2 x2 hx => by
    have hx' := hx.dd
    have fin : ∀ a, (SqL K H2 a (xs.map V.str) ∨ SqT K H2 a (xs.map V.str)) → x = .ref a → tCB (rLenK P w) (tCons (tCB (rSetS K P w) (tCons (tC x) tNil)) tNil) σ H2 Q := fun a hs e => by
      subst e
      refine ⟨a, xs, rfl, hs, hl, fun p hp => ⟨p, _, _, rfl, upd_same, ?_, q _ _ (x2.trans (Ex.new hp)) (.int _)⟩⟩
      have := uq_length_le xs
      omega
    rcases hd with rfl | rfl
    · cases hx' with
      | lst h1 h2 =>
        rw [dps_strs h2] at h1
        exact fin _ (.inl h1) rfl
    · cases hx' with
      | tup h1 _ h2 =>
        rw [dps_strs h2] at h1
        exact fin _ (.inr h1) rfl
end
end Wr

set_option Elab.async false
set_option linter.all false
set_option maxRecDepth 100000
set_option maxHeartbeats 4000000
namespace Wr
open PySem PySem.Spec PyProof.Rows L2 Evl
theorem pe_tyN {X : Cx} {x : Str} {T : String} {pos : Pos} (hg : Gl X x) (hm : X.mg x = none) (hv : bootBuiltins x = some (.type T)) (hn : x ≠ "__name__" := by decide) (hd : (x == ("__debug__" : Str)) = false := by decide) : PE X (.Name x pos) (tC (.ty T)) := pe_bltn hg hm hv rfl hn hd
theorem bt_int : bootBuiltins "int" = some (.type "int") := by decide +kernel
theorem bt_bool : bootBuiltins "bool" = some (.type "bool") := by decide +kernel
theorem bt_str : bootBuiltins "str" = some (.type "str") := by decide +kernel
theorem bt_tuple : bootBuiltins "tuple" = some (.type "tuple") := by decide +kernel
theorem bt_list : bootBuiltins "list" = some (.type "list") := by decide +kernel
theorem bt_set : bootBuiltins "set" = some (.type "set") := by decide +kernel
theorem bb_isinstance : bootBuiltins "isinstance" = some (.builtin "isinstance") := by decide +kernel
theorem bb_len : bootBuiltins "len" = some (.builtin "len") := by decide +kernel
theorem bb_all : bootBuiltins "all" = some (.builtin "all") := by decide +kernel
theorem bb_abs : bootBuiltins "abs" = some (.builtin "abs") := by decide +kernel
theorem bb_max : bootBuiltins "max" = some (.builtin "max") := by decide +kernel
theorem bb_min : bootBuiltins "min" = some (.builtin "min") := by decide +kernel
theorem bb_repr : bootBuiltins "repr" = some (.builtin "repr") := by decide +kernel
theorem bb_sorted : bootBuiltins "sorted" = some (.builtin "sorted") := by decide +kernel
/-- what a def of one, two, three, four data takes -/
theorem one_of {K : PySem.W.Frag} {H : Hp} {vs : List V} {ds : List PyData} (h : DdAll K H vs ds) (hl : ds.length = 1) : ∃ v d, vs = [v] ∧ ds = [d] ∧ Dd K H v d := by
  match ds, hl, h with
  | [d], _, .cons h1 .nil => exact ⟨_, d, rfl, rfl, h1⟩
theorem two_of {K : PySem.W.Frag} {H : Hp} {vs : List V} {ds : List PyData} (h : DdAll K H vs ds) (hl : ds.length = 2) : ∃ v v2 d d2, vs = [v, v2] ∧ ds = [d, d2] ∧ Dd K H v d ∧ Dd K H v2 d2 := by
  match ds, hl, h with
  | [d, d2], _, .cons h1 (.cons h2 .nil) => exact ⟨_, _, d, d2, rfl, rfl, h1, h2⟩
theorem four_of {K : PySem.W.Frag} {H : Hp} {vs : List V} {ds : List PyData} (h : DdAll K H vs ds) (hl : ds.length = 4) : ∃ v v2 v3 v4 d d2 d3 d4, vs = [v, v2, v3, v4] ∧ ds = [d, d2, d3, d4] ∧ Dd K H v d ∧ Dd K H v2 d2 ∧ Dd K H v3 d3 ∧ Dd K H v4 d4 := by
  match ds, hl, h with
  | [d, d2, d3, d4], _, .cons h1 (.cons h2 (.cons h3 (.cons h4 .nil))) => exact ⟨_, _, _, _, d, d2, d3, d4, rfl, rfl, h1, h2, h3, h4⟩
theorem spP_len {K : PySem.W.Frag} {n : Nat} {pre : List PyData → Prop} {f : List PyData → PyData} (hl : ∀ ds, pre ds → ds.length = n) {vs : List V} {H : Hp} {Q : VK} {E : XK} (h : spP K pre f vs H Q E) : vs.length = n := by
  obtain ⟨b, ds, _, hd, hp, _⟩ := h
  rw [dps_len hd, hl ds hp]
/-- data that are small enough to be looked at -/
structure Nice (d : PyData) : Prop where
  sh : SeqAt.shaped d = true
end Wr

set_option Elab.async false
set_option linter.all false
set_option maxRecDepth 100000
set_option maxHeartbeats 4000000
namespace Wr
open PySem PySem.Spec PyProof.Rows L2 Evl
/-! ### data within bounds -/
def okD : Nat → PyData → Bool
  | _, .none => true
  | _, .bool _ => true
  | _, .int i => decide (i.natAbs < 10 ^ 45)
  | _, .str x => PyData.strOk x && decide (x.length ≤ 1000)
  | n + 1, .list ds => decide (ds.length ≤ 1000) && ds.all (okD n)
  | n + 1, .tuple ds => decide (ds.length ≤ 1000) && ds.all (okD n)
  | _, _ => false
theorem lay_all : ∀ {ds : List PyData}, (∀ d ∈ ds, d.canLay0 = true) → PyData.canLayAll0 ds = true
  | [], _ => by simp only [PyData.canLayAll0]
  | d :: ds, h => by
    simp only [PyData.canLayAll0, h d List.mem_cons_self, lay_all fun e he => h e (List.mem_cons_of_mem _ he), Bool.and_self]
theorem depth_all {n : Nat} : ∀ {ds : List PyData}, (∀ d ∈ ds, d.depth ≤ n) → PyData.depthAll ds ≤ n
  | [], _ => by simp only [PyData.depthAll]; exact Nat.zero_le _
  | d :: ds, h => by
    have h1 := h d List.mem_cons_self
    have h2 := depth_all fun e he => h e (List.mem_cons_of_mem _ he)
    simp only [PyData.depthAll]
    omega
theorem show_all : ∀ {ds : List PyData}, (∀ d ∈ ds, d.showable = true) → PyData.showableAll ds = true
  | [], _ => by simp only [PyData.showableAll]
  | d :: ds, h => by
    simp only [PyData.showableAll, h d List.mem_cons_self, show_all fun e he => h e (List.mem_cons_of_mem _ he), Bool.and_self]
theorem log_small {i : Int} (h : i.natAbs < 10 ^ 45) : i.natAbs.log2 < 1920 := by
  by_cases h0 : i.natAbs = 0
  · rw [h0]; decide
  · have h1 : i.natAbs < 2 ^ 1920 := Nat.lt_trans h (by decide)
    exact (Nat.log2_lt h0).mpr h1
theorem ok_facts : ∀ (n : Nat) (d : PyData), okD n d = true → d.canLay0 = true ∧ d.depth ≤ n ∧ d.showable = true
  | _, .none, _ => by refine ⟨by simp only [PyData.canLay0], by simp only [PyData.depth]; exact Nat.zero_le _, by simp only [PyData.showable]⟩
  | _, .bool _, _ => by refine ⟨by simp only [PyData.canLay0], by simp only [PyData.depth]; exact Nat.zero_le _, by simp only [PyData.showable]⟩
  | n, .int i, h => by
    refine ⟨by simp only [PyData.canLay0], by simp only [PyData.depth]; exact Nat.zero_le _, ?_⟩
    have h' : decide (i.natAbs < 10 ^ 45) = true := by
      cases n <;> exact h
    simp only [PyData.showable]
    exact decide_eq_true (log_small (of_decide_eq_true h'))
  | n, .str x, h => by
    have h' : (PyData.strOk x && decide (x.length ≤ 1000)) = true := by cases n <;> exact h
    refine ⟨?_, by simp only [PyData.depth]; exact Nat.zero_le _, by simp only [PyData.showable]⟩
    simp only [PyData.canLay0]
    exact (Bool.and_eq_true_iff.mp h').1
  | 0, .list ds, h => by cases h
  | 0, .tuple ds, h => by cases h
  | n + 1, .list ds, h => by
    have h' := List.all_eq_true.mp (Bool.and_eq_true_iff.mp (show (decide (ds.length ≤ 1000) && ds.all (okD n)) = true from h)).2
    have q := fun d hd => ok_facts n d (h' d hd)
    refine ⟨?_, ?_, ?_⟩
    · simp only [PyData.canLay0]
      exact lay_all fun d hd => (q d hd).1
    · simp only [PyData.depth]
      exact Nat.succ_le_succ (depth_all fun d hd => (q d hd).2.1)
    · simp only [PyData.showable]
      exact show_all fun d hd => (q d hd).2.2
  | n + 1, .tuple ds, h => by
    have h' := List.all_eq_true.mp (Bool.and_eq_true_iff.mp (show (decide (ds.length ≤ 1000) && ds.all (okD n)) = true from h)).2
    have q := fun d hd => ok_facts n d (h' d hd)
    refine ⟨?_, ?_, ?_⟩
    · simp only [PyData.canLay0]
      exact lay_all fun d hd => (q d hd).1
    · simp only [PyData.depth]
      exact Nat.succ_le_succ (depth_all fun d hd => (q d hd).2.1)
    · simp only [PyData.showable]
      exact show_all fun d hd => (q d hd).2.2
  | 0, .dict _, h => by cases h
  | _ + 1, .dict _, h => by cases h
theorem ok_shaped {n : Nat} {d : PyData} (h : okD n d = true) (hn : n ≤ 64 := by omega) : SeqAt.shaped d = true := by
  obtain ⟨h1, h2, _⟩ := ok_facts n d h
  show (d.canLay0 && decide (d.depth ≤ 64)) = true
  rw [h1, decide_eq_true (by omega)]
  rfl
theorem ok_items {n : Nat} {ds : List PyData} (h : okD (n + 1) (.tuple ds) = true) : ∀ d ∈ ds, okD n d = true :=
  List.all_eq_true.mp (Bool.and_eq_true_iff.mp (show (decide (ds.length ≤ 1000) && ds.all (okD n)) = true from h)).2
theorem ok_itemsL {n : Nat} {ds : List PyData} (h : okD (n + 1) (.list ds) = true) : ∀ d ∈ ds, okD n d = true :=
  List.all_eq_true.mp (Bool.and_eq_true_iff.mp (show (decide (ds.length ≤ 1000) && ds.all (okD n)) = true from h)).2
theorem ok_len {n : Nat} {ds : List PyData} (h : okD n (.tuple ds) = true) : ds.length ≤ 1000 := by
  cases n with
  | zero => cases h
  | succ n => exact of_decide_eq_true (Bool.and_eq_true_iff.mp (show (decide (ds.length ≤ 1000) && ds.all (okD n)) = true from h)).1
theorem ok_lenL {n : Nat} {ds : List PyData} (h : okD n (.list ds) = true) : ds.length ≤ 1000 := by
  cases n with
  | zero => cases h
  | succ n => exact of_decide_eq_true (Bool.and_eq_true_iff.mp (show (decide (ds.length ≤ 1000) && ds.all (okD n)) = true from h)).1
theorem ok_str {n : Nat} {x : Str} (h : okD n (.str x) = true) : x.length ≤ 1000 := by
  have h' : (PyData.strOk x && decide (x.length ≤ 1000)) = true := by cases n <;> exact h
  exact of_decide_eq_true (Bool.and_eq_true_iff.mp h').2
theorem ok_mono : ∀ (n : Nat) (d : PyData), okD n d = true → okD (n + 1) d = true
  | _, .none, _ => rfl
  | _, .bool _, _ => rfl
  | n, .int i, h => by cases n <;> exact h
  | n, .str x, h => by cases n <;> exact h
  | 0, .list ds, h => by cases h
  | 0, .tuple ds, h => by cases h
  | n + 1, .list ds, h => by
    have h' : (decide (ds.length ≤ 1000) && ds.all (okD n)) = true := h
    show (decide (ds.length ≤ 1000) && ds.all (okD (n + 1))) = true
    rw [Bool.and_eq_true] at h' ⊢
    exact ⟨h'.1, List.all_eq_true.mpr fun d hd => ok_mono n d (List.all_eq_true.mp h'.2 d hd)⟩
  | n + 1, .tuple ds, h => by
    have h' : (decide (ds.length ≤ 1000) && ds.all (okD n)) = true := h
    show (decide (ds.length ≤ 1000) && ds.all (okD (n + 1))) = true
    rw [Bool.and_eq_true] at h' ⊢
    exact ⟨h'.1, List.all_eq_true.mpr fun d hd => ok_mono n d (List.all_eq_true.mp h'.2 d hd)⟩
  | 0, .dict _, h => by cases h
  | _ + 1, .dict _, h => by cases h
theorem ok_up {n m : Nat} {d : PyData} (h : okD n d = true) (hm : n ≤ m) : okD m d = true := by
  obtain ⟨k, rfl⟩ := Nat.exists_eq_add_of_le hm
  induction k with
  | zero => exact h
  | succ k ih => exact ok_mono _ _ (ih (Nat.le_add_right _ _))
theorem isD_tuple {d : PyData} (h : isD "tuple" d = true) : ∃ ds, d = .tuple ds := by
  cases d <;> first | exact ⟨_, rfl⟩ | (simp [isD, dTy, tyIs] at h)
theorem isD_list {d : PyData} (h : isD "list" d = true) : ∃ ds, d = .list ds := by
  cases d <;> first | exact ⟨_, rfl⟩ | (simp [isD, dTy, tyIs] at h)
theorem isD_str {d : PyData} (h : isD "str" d = true) : ∃ x, d = .str x := by
  cases d <;> first | exact ⟨_, rfl⟩ | (simp [isD, dTy, tyIs] at h)
/-! ### the program's own functions, on data -/
def wholeD (d : PyData) : Bool := isD "int" d && !isD "bool" d
theorem wholeD_int {d : PyData} (h : wholeD d = true) : ∃ i, d = .int i := by
  cases d <;> first | exact ⟨_, rfl⟩ | (simp [wholeD, isD, dTy, tyIs] at h)
def worthD (d : PyData) : Bool := match d with
  | .int i => decide (-1000000000000 ≤ i) && decide (i ≤ 1000000000000)
  | _ => false
def indexD (d : PyData) (n : Int) : Bool := match d with
  | .int i => decide (0 ≤ i) && decide (i < n)
  | _ => false
def nameS (x : Str) : Bool := decide (x.length ≤ 8) && (Txt.isascii x && (Txt.isalpha x && Txt.islower x))
def nameD (d : PyData) : Bool := match d with
  | .str x => nameS x
  | _ => false
def strsOf (ds : List PyData) : List Str := ds.filterMap fun d => match d with
  | .str x => some x
  | _ => none
def unlikeS (xs : List Str) : Bool := decide ((uq xs).length = xs.length)
def namesD (d : PyData) : Bool := match d with
  | .tuple ds => decide (ds.length ≤ 3) && (ds.all nameD && unlikeS (strsOf ds))
  | _ => false
def headedD (d : PyData) : Bool := match d with
  | .tuple [a, c, _] => nameD a && namesD c
  | _ => false
def fst (d : PyData) : PyData := match d with
  | .tuple (a :: _) => a
  | _ => .none
def thd (d : PyData) : PyData := match d with
  | .tuple (_ :: _ :: a :: _) => a
  | _ => .none
def headedAll (d : PyData) (most : Int) : Bool := match d with
  | .tuple ds => (decide (1 ≤ ds.length) && decide ((ds.length : Int) ≤ most)) && (ds.all headedD && unlikeS (strsOf (ds.map fst)))
  | _ => false
def loneW : List Str := ["add", "less", "times", "over", "same", "below", "twin", "swap", "away", "say", "back", "throw", "done", "lead", "turn"]
def nameW : List Str := ["get", "set", "look", "change"]
def rowW : List Str := ["go", "if", "try"]
def rowD (d : PyData) (at_ many : Int) (called : List Str) : Bool := match d with
  | .tuple [a] => inD a (loneW.map .str)
  | .tuple [a, c] =>
    if PyData.eqv a (.str "put") = true then worthD c
    else if inD a (nameW.map .str) = true then nameD c
    else if PyData.eqv a (.str "call") = true then inD c (called.map .str)
    else inD a (rowW.map .str) && (indexD c many && !(PyData.eqv a (.str "try") && PyData.eqv c (.int (at_ + 1))))
  | _ => false
def rowsD (d : PyData) (called : List Str) : Bool := match d with
  | .tuple ds => (decide (1 ≤ ds.length) && decide (ds.length ≤ 60)) && ((List.range ds.length).all fun i => rowD (ds.getD i .none) i ds.length called)
  | _ => false
def progD (d : PyData) : Bool := match d with
  | .tuple ds => headedAll (.tuple ds) 8 && ds.all fun p => rowsD (thd p) (strsOf (ds.map fst))
  | _ => false
end Wr

set_option Elab.async false
set_option linter.all false
set_option maxRecDepth 100000
set_option maxHeartbeats 4000000
namespace Wr
open PySem PySem.Spec PyProof.Rows L2 Evl
section
variable {K : PySem.W.Frag} {b : List Addr} {σ : L2.St} {H H' : Hp} {ta te : TE} {tt : TT} {d : PyData} {ds : List PyData}
theorem et_n {c : Bool} (h : EvT tt σ H c) : EvT (tNot tt) σ H (!c) := fun H1 x Q q => h H1 x _ fun H2 x2 => q H2 x2
theorem ed_m0 {C : Str → Prop} {g : Str → V} {x : Str} {z : PyData} (ha : ED K b ta σ H (.str x)) (hc : C x) (hz : ∀ H', Dq K b H' (g x) z) : ED K b (tBM0 K "str" (fun x xs H Q => ∃ a, x = .str a ∧ xs = [] ∧ C a ∧ Q (g a) H) ta) σ H z := fun H1 x1 Q q =>
  ha H1 x1 _ fun v H2 x2 hv => by
    cases hv
    exact ⟨rfl, x, rfl, rfl, hc, q _ H2 x2 (hz _)⟩
end
theorem pe_gI {X : Cx} {x : Str} {i : Int} {t : Tok} {pos : Pos} (hm : X.mg x = some (.int i t)) (hg : Gl X x := by rfl) (hd : (x == ("__debug__" : Str)) = false := by decide) : PE X (.Name x pos) (tC (.int i)) := pe_glob hg hm ⟨t, rfl⟩ hd
theorem pe_gR {X : Cx} {x : Str} {a : Addr} {pos : Pos} (hm : X.mg x = some (.ref a)) (hg : Gl X x := by rfl) (hd : (x == ("__debug__" : Str)) = false := by decide) : PE X (.Name x pos) (tC (.ref a)) := pe_glob hg hm rfl hd
/-- the built-ins that the text uses are still the built-ins -/
structure Blt (mg : Str → Option Value) : Prop where
  isi : mg "isinstance" = none
  len : mg "len" = none
  all : mg "all" = none
  enum : mg "enumerate" = none
  set : mg "set" = none
  int : mg "int" = none
  bool : mg "bool" = none
  str : mg "str" = none
  tuple : mg "tuple" = none
  list : mg "list" = none
  range : mg "range" = none
/-- a def of the text -/
structure Def (K : PySem.W.Frag) (mg : Str → Option Value) (x : Str) (st : Stmt) (ps : List Str) (f : Addr) (fd : FuncData) : Prop where
  F : Fun K x x st f fd
  b : Binds K fd ps []
  m : mg x = some (.ref f)
theorem pe_cd {X : Cx} {x : Str} {st : Stmt} {k : Nat} {ps : List Str} {sp : Sp} {f : Addr} {fd : FuncData} {p pos : Pos} {e : Expr} {es : List Expr} {t : TA} (D : Def X.K X.mg x st ps f fd) (G : FnOk X.prog X.w X.K X.mg X.base CX0 k f fd ps sp) (hr : Room k X.A) (ha : PA X (e :: es) t)
    (hg : Gl X x := by rfl) (hdb : (x == ("__debug__" : Str)) = false := by decide) (he : starEach (e :: es) X.env = (false, eval e X.env) :: starEach es X.env := by rfl) (hpl : (backTo pos (starEach es X.env)).any (·.1) = false := by rfl) :
    PE X (.Call (.Name x p) (e :: es) [] pos) (tCall sp [] E0 t) := pe_call G hr hg D.m D.F.kp D.b .nil pass0 ha hdb he hpl
def topS (i : Nat) : Stmt := PySem.Challenge.pw_watchedrun_k02_first_of_all_no_program.main.body.getD i (.Pass ⟨0, 0, 0, 0⟩)
abbrev s_is_whole : Stmt := topS 5
abbrev s_is_worth : Stmt := topS 6
abbrev s_is_index : Stmt := topS 7
abbrev s_is_name : Stmt := topS 8
abbrev s_are_names : Stmt := topS 9
abbrev s_are_unlike : Stmt := topS 10
abbrev s_is_headed : Stmt := topS 11
abbrev s_are_headed : Stmt := topS 12
theorem sc_is_whole : FnScope ["thing"] ["thing"] (defScope s_is_whole) := ⟨rfl, rfl, rfl, by decide +kernel, rfl, by decide +kernel, by decide +kernel⟩
theorem sc_is_worth : FnScope ["thing"] ["thing"] (defScope s_is_worth) := ⟨rfl, rfl, rfl, by decide +kernel, rfl, by decide +kernel, by decide +kernel⟩
theorem sc_is_index : FnScope ["thing", "many"] ["thing", "many"] (defScope s_is_index) := ⟨rfl, rfl, rfl, by decide +kernel, rfl, by decide +kernel, by decide +kernel⟩
theorem sc_is_name : FnScope ["thing"] ["thing"] (defScope s_is_name) := ⟨rfl, rfl, rfl, by decide +kernel, rfl, by decide +kernel, by decide +kernel⟩
theorem sc_are_names : FnScope ["thing", "name"] ["thing"] (defScope s_are_names) := ⟨rfl, rfl, rfl, by decide +kernel, rfl, by decide +kernel, by decide +kernel⟩
theorem sc_are_unlike : FnScope ["names"] ["names"] (defScope s_are_unlike) := ⟨rfl, rfl, rfl, by decide +kernel, rfl, by decide +kernel, by decide +kernel⟩
theorem sc_is_headed : FnScope ["thing"] ["thing"] (defScope s_is_headed) := ⟨rfl, rfl, rfl, by decide +kernel, rfl, by decide +kernel, by decide +kernel⟩
theorem sc_are_headed : FnScope ["thing", "most", "one"] ["thing", "most"] (defScope s_are_headed) := ⟨rfl, rfl, rfl, by decide +kernel, rfl, by decide +kernel, by decide +kernel⟩
/-- one datum, a truth -/
def F1 (g : PyData → Bool) (ds : List PyData) : PyData := match ds with
  | [d] => .bool (g d)
  | _ => .none
def F2 (g : PyData → PyData → Bool) (ds : List PyData) : PyData := match ds with
  | [d, e] => .bool (g d e)
  | _ => .none
def intOf (d : PyData) : Int := match d with
  | .int i => i
  | _ => 0
section
variable {P : Program} {w : World} {K : PySem.W.Frag} {mg : Str → Option Value} {base : Heap} {f g g2 g3 : Addr} {fd gd gd2 gd3 : FuncData}
theorem ok_is_whole (D : Def K mg "is_whole" s_is_whole ["thing"] f fd) (B : Blt mg) : FnOk P w K mg base CX0 1 f fd ["thing"] (spP K (fun ds => ds.length = 1) (F1 wholeD)) := by
  refine D.F.ok sc_is_whole (fun vs H Q E h => spP_len (fun _ h => h) h) (fun cdv A outer s H vs Q E hr h => ?_)
  obtain ⟨b, ds, kn, hd, hp, q⟩ := h
  obtain ⟨v, d, rfl, rfl, h1⟩ := one_of hd hp
  refine ⟨_, pss_one (ps_ret (pe_and (pe_callB call_isi rfl B.isi bb_isinstance (pa_cons (pv 0) (pa_cons (pe_tyN rfl B.int bt_int) pa_nil)))
    (pe_one (pe_not (pe_callB call_isi rfl B.isi bb_isinstance (pa_cons (pv 0) (pa_cons (pe_tyN rfl B.bool bt_bool) pa_nil))))))), ?_⟩
  exact SR.fin (sr_ret (ed_andB (ed_isi (.inl rfl) (ed_var rfl h1)) fun _ => ed_not (ed_isi (.inr (.inl rfl)) (ed_var rfl h1)))) q
theorem ok_is_worth (D : Def K mg "is_worth" s_is_worth ["thing"] f fd) (D1 : Def K mg "is_whole" s_is_whole ["thing"] g gd) (B : Blt mg) {t : Tok} (mW : mg "MOST_WORTH" = some (.int 1000000000000 t)) :
    FnOk P w K mg base CX0 2 f fd ["thing"] (spP K (fun ds => ds.length = 1) (F1 worthD)) := by
  refine D.F.ok sc_is_worth (fun vs H Q E h => spP_len (fun _ h => h) h) (fun cdv A outer s H vs Q E hr h => ?_)
  obtain ⟨b, ds, kn, hd, hp, q⟩ := h
  obtain ⟨v, d, rfl, rfl, h1⟩ := one_of hd hp
  refine ⟨_, pss_one (ps_ret (pe_and (pe_cd D1 (ok_is_whole D1 B) hr (pa_cons (pv 0) pa_nil))
    (pe_one (pe_chain op_le op_le (pe_un un_neg (pe_gI mW)) (pv 0) (pe_gI mW))))), ?_⟩
  cases hw : wholeD d with
  | false =>
    refine SR.fin (sr_ret ((ed_and (d := .none) (c := wholeD d) (ed_call kn (ea_cons (ed_var rfl h1) ea_nil) (by rfl)) fun h => ?_).to ?_)) q
    · rw [hw] at h; cases h
    · rw [hw]
      have : worthD d = false := by
        cases d <;> first | rfl | (simp [wholeD, isD, dTy, tyIs] at hw)
      show PyData.bool false = .bool (worthD d)
      rw [this]
  | true =>
    obtain ⟨i, rfl⟩ := wholeD_int hw
    refine SR.fin (sr_ret ((ed_andB (c := wholeD (.int i)) (ed_call kn (ea_cons (ed_var rfl h1) ea_nil) (by rfl)) fun _ => ed_chain (ed_neg (ed_c (.int _))) (ed_var rfl h1) (ed_c (.int _))).to ?_)) q
    rw [hw]
    rfl
theorem ok_is_index (D : Def K mg "is_index" s_is_index ["thing", "many"] f fd) (D1 : Def K mg "is_whole" s_is_whole ["thing"] g gd) (B : Blt mg) :
    FnOk P w K mg base CX0 2 f fd ["thing", "many"] (spP K (fun ds => ds.length = 2 ∧ ∀ d n, ds = [d, n] → ∃ i, n = .int i) (F2 fun d n => indexD d (intOf n))) := by
  refine D.F.ok sc_is_index (fun vs H Q E h => spP_len (fun _ h => h.1) h) (fun cdv A outer s H vs Q E hr h => ?_)
  obtain ⟨b, ds, kn, hd, ⟨hp, hp2⟩, q⟩ := h
  obtain ⟨v, v2, d, n, rfl, rfl, h1, h2⟩ := two_of hd hp
  obtain ⟨m, rfl⟩ := hp2 d n rfl
  refine ⟨_, pss_one (ps_ret (pe_and (pe_cd D1 (ok_is_whole D1 B) hr (pa_cons (pv 0) pa_nil))
    (pe_one (pe_chain op_le op_lt pe_int (pv 0) (pv 1))))), ?_⟩
  cases hw : wholeD d with
  | false =>
    refine SR.fin (sr_ret ((ed_and (d := .none) (c := wholeD d) (ed_call kn (ea_cons (ed_var rfl h1) ea_nil) (by rfl)) fun h => ?_).to ?_)) q
    · rw [hw] at h; cases h
    · rw [hw]
      have : indexD d (intOf (.int m)) = false := by
        cases d <;> first | rfl | (simp [wholeD, isD, dTy, tyIs] at hw)
      show PyData.bool false = .bool (indexD d (intOf (.int m)))
      rw [this]
  | true =>
    obtain ⟨i, rfl⟩ := wholeD_int hw
    refine SR.fin (sr_ret ((ed_andB (c := wholeD (.int i)) (ed_call kn (ea_cons (ed_var rfl h1) ea_nil) (by rfl)) fun _ => ed_chain ed_int (ed_var rfl h1) (ed_var rfl h2)).to ?_)) q
    rw [hw]
    rfl
theorem ok_is_name (D : Def K mg "is_name" s_is_name ["thing"] f fd) (B : Blt mg) {t : Tok} (mL : mg "MOST_LETTERS" = some (.int 8 t)) :
    FnOk P w K mg base CX0 1 f fd ["thing"] (spP K (fun ds => ds.length = 1 ∧ ∀ d, ds = [d] → okD 30 d = true) (F1 nameD)) := by
  refine D.F.ok sc_is_name (fun vs H Q E h => spP_len (fun _ h => h.1) h) (fun cdv A outer s H vs Q E hr h => ?_)
  obtain ⟨b, ds, kn, hd, ⟨hp, hok⟩, q⟩ := h
  obtain ⟨v, d, rfl, rfl, h1⟩ := one_of hd hp
  have hok := hok d rfl
  refine ⟨_, pss_cons (ps_if (PW.pt (pw_or (pt_not (pt_val (pe_callB call_isi rfl B.isi bb_isinstance (pa_cons (pv 0) (pa_cons (pe_tyN rfl B.str bt_str) pa_nil)))))
      (pw_or1 (pt_cmpR op_gt (pe_callB call_lenD1 rfl B.len bb_len (pa_cons (pv 0) pa_nil)) (pe_gI mL) (nomark _))))) (pss_one (ps_ret pe_bl)) pss_nil)
    (pss_one (ps_ret (pe_and (pe_bm0 PySem.F.plainAttrs_str PySem.F.slot_str_isascii PySem.F.type_str_isascii mt_isascii (pv 0))
      (pe_and (pe_bm0 PySem.F.plainAttrs_str PySem.F.slot_str_isalpha PySem.F.type_str_isalpha mt_isalpha (pv 0))
      (pe_one (pe_bm0 PySem.F.plainAttrs_str PySem.F.slot_str_islower PySem.F.type_str_islower mt_islower (pv 0))))))), ?_⟩
  have t1 := et_n (et_b (ed_isi (K := K) (b := b) (σ := start ["thing"] [v]) (H := H) (T := "str") (.inr (.inr (.inl rfl))) (ed_var (i := 0) rfl h1)))
  cases hs : isD "str" d with
  | false =>
    rw [hs] at t1
    refine SR.fin ((sr_if (e := .none) (et_or (b := false) t1 fun h => nomatch h) (fun _ => sr_ret ed_bl) fun h => nomatch h).to ?_) q
    have : nameD d = false := by
      cases d <;> first | rfl | (simp [isD, dTy, tyIs] at hs)
    show PyData.bool false = .bool (nameD d)
    rw [this]
  | true =>
    obtain ⟨x, rfl⟩ := isD_str hs
    have hl := ok_str hok
    rw [hs] at t1
    refine SR.fin ((sr_if (et_or t1 fun _ => et_t (ed_gt (ed_len (ed_var rfl h1) (.inl hs) fun y e => by cases e; exact Nat.le_trans hl (by decide)) (ed_c (.int _)))) (fun _ => sr_ret ed_bl)
      fun _ => sr_ret (ed_andB (ed_m0 (ed_var rfl h1) trivial fun _ => .bl _) fun _ => ed_andB (ed_m0 (ed_var rfl h1) trivial fun _ => .bl _) fun _ => ed_m0 (ed_var rfl h1) trivial fun _ => .bl _)).to ?_) q
    show _ = PyData.bool (nameS x)
    unfold nameS
    by_cases h8 : x.length ≤ 8
    · have e1 : decide ((8 : Int) < (lenD (.str x) : Nat)) = false := decide_eq_false (by show ¬ (8 : Int) < (x.length : Nat); omega)
      rw [e1, decide_eq_true h8]
      rfl
    · have e1 : decide ((8 : Int) < (lenD (.str x) : Nat)) = true := decide_eq_true (by show (8 : Int) < (x.length : Nat); omega)
      rw [e1, decide_eq_false h8]
      rfl
end
end Wr

set_option Elab.async false
set_option linter.all false
set_option maxRecDepth 100000
set_option maxHeartbeats 4000000
namespace Wr
open PySem PySem.Spec PyProof.Rows L2 HotX L2H
/-! ### a list walked to its end while an exception is handled -/
theorem end_hot {prog : Program} {w : World} {A : Around} {E : Value → Shared → Prop} {s : Shared} {it l x1 : Addr} {i : Nat} {items : Array Value} {Q : Option Value → Shared → Prop} (hot : HotAt A x1 s.heap) (nx : x1 ≠ it) (st : s.heap.IsListIter it l i) (hl : s.heap.IsList l items) (out : items[i]? = none)
    (q : ∀ h', (∀ b o, b ≠ it → s.heap.get? b = some o → h'.get? b = some o) → Q none { s with heap := h' }) : wpAny (model prog w) A (pyNext (.ref it)) Q E s := by
  have ty := st.typeIs
  obtain ⟨hh, o1, vs1, g1, d1, c1⟩ := hot
  obtain ⟨oi, gi, ci, di⟩ := st
  obtain ⟨ol, gl, _, nl, dl⟩ := hl
  unfold pyNext
  refine wpAny_bind (wpAny_attempt (wpAny_callSpecial?_slot (name := Str.ofString "__next__") ty slot_listiter_next (wpAny_call_entry slot_listiter_next ty entry_listiter_next ?_ (args_listiter_next _))))
  show wpAny _ _ (field (.ref it) 0 >>= _) _ _ s
  refine wpAny_bind (wpAny_field gi di (x := .ref l) rfl ?_)
  show wpAny _ _ (if (Value.ref l == Value.none) = true then _ else _) _ _ s
  have nb : ¬ (Value.ref l == Value.none) = true := Bool.false_ne_true
  rw [if_neg nb]
  show wpAny _ A.in1 (field (.ref it) 1 >>= _) _ _ s
  refine wpAny_bind (wpAny_field gi di (x := .int i 0) rfl ?_)
  show wpAny _ A.in1 (seqItems? (.ref l) >>= _) _ _ s
  refine wpAny_bind (wpAny_seqItems gl dl ?_)
  simp only [Int.toNat_natCast, out]
  refine wpAny_bind (wpAny_rule (wpAny_bind (wpAny_setField gi di (by simp) ?_)))
  show wpAny _ A.in1 (newExc (.type "StopIteration") [] >>= _) _ _ _
  refine wpAny_bind ?_
  simp only [newExc, newTuple]
  refine wpAny_bind (wpAny_newObj_type (wpAny_bind (m := firstArgMember _ _) (wpAny_of_eq (a := Value.none) (by first | rfl | (simp only [firstArgMember]; rfl)) (wpAny_newObj_type ?_ (by size_fits)))) (by size_fits))
  have g1' : (s.heap.update it (Obj.mapFields (·.setIfInBounds 0 Value.none))).get? x1 = some o1 := by rw [Heap.get?_update_other _ _ (Ne.symm nx)]; exact g1
  refine raiseNew_hot ⟨hh, o1, vs1, Heap.get?_push_of_some _ (Heap.get?_push_of_some _ g1'), d1, c1⟩ (Nat.ne_of_lt (Heap.lt_size (Heap.get?_push_of_some _ g1'))) (Heap.get?_push_size _ rfl) rfl (by first | (simp; done) | (simp; omega)) ?_
  refine wpAny_bind (wpAny_isInstance (b := true) (T := "StopIteration") ⟨_, Heap.get?_update_self _ (Heap.get?_push_size _ rfl) rfl, rfl⟩ isSubtype_stop (wpAny_pure (q _ fun b o ne e => ?_)))
  have e1 : (s.heap.update it (Obj.mapFields (·.setIfInBounds 0 Value.none))).get? b = some o := by rw [Heap.get?_update_other _ _ (Ne.symm ne)]; exact e
  rw [Heap.get?_update_other _ _ (Nat.ne_of_gt (Heap.lt_size (Heap.get?_push_of_some _ e1)))]
  exact Heap.get?_push_of_some _ (Heap.get?_push_of_some _ e1)
theorem end_hotT {prog : Program} {w : World} {A : Around} {E : Value → Shared → Prop} {s : Shared} {it l x1 : Addr} {i : Nat} {items : Array Value} {Q : Option Value → Shared → Prop} (hot : HotAt A x1 s.heap) (nx : x1 ≠ it) (st : s.heap.IsTupleIter it l i) (hl : s.heap.IsTuple l items) (out : items[i]? = none)
    (q : ∀ h', (∀ b o, b ≠ it → s.heap.get? b = some o → h'.get? b = some o) → Q none { s with heap := h' }) : wpAny (model prog w) A (pyNext (.ref it)) Q E s := by
  have ty := st.typeIs
  obtain ⟨hh, o1, vs1, g1, d1, c1⟩ := hot
  obtain ⟨oi, gi, ci, di⟩ := st
  obtain ⟨ol, gl, _, nl, dl⟩ := hl
  unfold pyNext
  refine wpAny_bind (wpAny_attempt (wpAny_callSpecial?_slot (name := Str.ofString "__next__") ty F.slot_tuple_iterator_next (wpAny_call_entry F.slot_tuple_iterator_next ty F.entry_tuple_iterator_next ?_ (F.args_tuple_iterator_next_1 _))))
  show wpAny _ A.in1 (field (.ref it) 0 >>= _) _ _ s
  refine wpAny_bind (wpAny_field gi di (x := .ref l) rfl ?_)
  show wpAny _ A.in1 (if (Value.ref l == Value.none) = true then _ else _) _ _ s
  have nb : ¬ (Value.ref l == Value.none) = true := Bool.false_ne_true
  rw [if_neg nb]
  show wpAny _ A.in1 (field (.ref it) 1 >>= _) _ _ s
  refine wpAny_bind (wpAny_field gi di (x := .int i 0) rfl ?_)
  show wpAny _ A.in1 (seqItems? (.ref l) >>= _) _ _ s
  refine wpAny_bind (wpAny_seqItems gl dl ?_)
  simp only [Int.toNat_natCast, out]
  refine wpAny_bind (wpAny_rule (wpAny_bind (wpAny_setField gi di (by simp) ?_)))
  show wpAny _ A.in1 (newExc (.type "StopIteration") [] >>= _) _ _ _
  refine wpAny_bind ?_
  simp only [newExc, newTuple]
  refine wpAny_bind (wpAny_newObj_type (wpAny_bind (m := firstArgMember _ _) (wpAny_of_eq (a := Value.none) (by first | rfl | (simp only [firstArgMember]; rfl)) (wpAny_newObj_type ?_ (by size_fits)))) (by size_fits))
  have g1' : (s.heap.update it (Obj.mapFields (·.setIfInBounds 0 Value.none))).get? x1 = some o1 := by rw [Heap.get?_update_other _ _ (Ne.symm nx)]; exact g1
  refine raiseNew_hot ⟨hh, o1, vs1, Heap.get?_push_of_some _ (Heap.get?_push_of_some _ g1'), d1, c1⟩ (Nat.ne_of_lt (Heap.lt_size (Heap.get?_push_of_some _ g1'))) (Heap.get?_push_size _ rfl) rfl (by first | (simp; done) | (simp; omega)) ?_
  refine wpAny_bind (wpAny_isInstance (b := true) (T := "StopIteration") ⟨_, Heap.get?_update_self _ (Heap.get?_push_size _ rfl) rfl, rfl⟩ isSubtype_stop (wpAny_pure (q _ fun b o ne e => ?_)))
  have e1 : (s.heap.update it (Obj.mapFields (·.setIfInBounds 0 Value.none))).get? b = some o := by rw [Heap.get?_update_other _ _ (Ne.symm ne)]; exact e
  rw [Heap.get?_update_other _ _ (Nat.ne_of_gt (Heap.lt_size (Heap.get?_push_of_some _ e1)))]
  exact Heap.get?_push_of_some _ (Heap.get?_push_of_some _ e1)
theorem unpack_hot {prog : Program} {w : World} {A : Around} {E : Value → Shared → Prop} {s : Shared} {t x1 : Addr} {items : Array Value} {Q : List Value → Shared → Prop} (hot : HotAt A x1 s.heap) (ht : s.heap.IsTuple t items)
    (q : ∀ h', (∀ b o, s.heap.get? b = some o → h'.get? b = some o) → Q items.toList { s with heap := h' }) : wpAny (model prog w) A (unpackItems (.ref t) items.size none) Q E s := by
  have nt : t ≠ s.heap.objs.size := by
    obtain ⟨o, ho, _⟩ := ht
    exact Nat.ne_of_lt (Heap.lt_size ho)
  obtain ⟨hh, o1, vs1, g1, d1, c1⟩ := hot
  have n1 : x1 ≠ s.heap.objs.size := Nat.ne_of_lt (Heap.lt_size g1)
  unfold unpackItems
  refine wpAny_bind ?_
  unfold notIterableAtAll
  refine wpAny_bind (wpAny_specialOf ht.typeIs F.slot_tuple_iter.lookup (wpAny_pure ?_))
  simp only [Bool.false_eq_true, if_false]
  refine wpAny_bind (wpAny_holding (wpAny_pyIter_tuple ht (wpAny_bind (wpAny_holding (wpAny_draw_tuple nt items.size 0 _ _ ⟨_, Heap.get?_push_size _ rfl, rfl, rfl⟩ (ht.push _) (by omega) fun h2 it2 sb2 => ?_)))))
  have all : List.take items.size (List.drop 0 items.toList) = items.toList := by
    rw [List.drop_zero]
    exact List.take_of_length_le (by simp)
  rw [all, if_neg (by simp)]
  have keep : ∀ b o, s.heap.get? b = some o → h2.get? b = some o := fun b o e => (sb2.2 b (Nat.ne_of_lt (Heap.lt_size e))).trans (Heap.get?_push_of_some _ e)
  refine wpAny_bind (wpAny_holding (end_hotT (x1 := x1) ⟨hh, o1, vs1, keep _ _ g1, d1, c1⟩ n1 it2 ((ht.push _).extBut sb2.extBut nt) (by simp) fun h3 k3 => ?_))
  simp only [Option.isSome_none, Bool.false_eq_true, if_false]
  exact wpAny_pure (q h3 fun b o e => k3 b o (Nat.ne_of_lt (Heap.lt_size e)) (keep b o e))
/-- (a, b, ..) = a tuple of that length, while an exception is handled -/
theorem pg_tupH {X : Cx} {es : List Expr} {k : Nat} {t : TGs} {n : Nat} {pos : Pos} (hh : ∀ {pins : List (Addr × Obj)} {σ : L2.St} {H : Hp} {s : Shared}, L2.Inv X pins σ H s → ∃ x1, HotAt X.A x1 s.heap) (h : PGs X es t)
    (hn : (assignEach es X.env).length = n := by rfl) (hst : (assignEach es X.env).findIdx? (·.1) = none := by rfl) : PG X (.Tuple es k pos) (gTup X.K n t) := by
  refine ⟨fun pins s σ H v u Q I r ⟨a, xs, e1, hq, hl, hw⟩ => ?_⟩
  subst e1
  cases r
  obtain ⟨x1, hot⟩ := hh I
  obtain ⟨its, rv, ht, hz⟩ := I.tuple hq
  have sz : (assignEach es X.env).length = its.toArray.size := by rw [hn, List.size_toArray, ← rv.length, hl]
  rw [arm_assign_Tuple]
  refine wpAny_bind (wpAny_standAt ?_)
  unfold unpack
  rw [sz, hst]
  refine wpAny_bind (wpAny_holding (unpack_hot hot (show s.heap.IsTuple a its.toArray from ht) fun h' k => ?_))
  have J : L2.Inv X pins σ H { s with heap := h' } := I.kept (t' := s.toks) k
  exact h.run pins _ σ H xs _ Q J (by simpa using rv) hw
section
variable {X : Cx}
/-- a pinned object stands through a block -/
theorem blk_pin {pins pn' : List (Addr × Obj)} {σ σ' : L2.St} {H H' : Hp} {s s' : Shared} {scope : Scope} {ce : Env} {it : Addr} {p : Addr × Obj} (hp : p ∈ X.pn) (I : L2.Inv X pins σ H s) (ni : p.1 ≠ it) (J : L2.Inv (X.blk s H scope ce [it]) pn' σ' H' s') : s'.heap.get? p.1 = some p.2 := by
  have a := I.pin p (List.mem_append_left _ hp)
  refine J.base.keep p.1 p.2 a.1 a.2.1 (fun hm => ?_) fun hm => ni (List.mem_singleton.mp hm)
  rcases List.mem_cons.mp (I.stkSub p.1 hm) with z | z
  · exact a.2.2.1 z
  · exact a.2.2.2.1 z
theorem blk_fp {σ' : L2.St} {H H' : Hp} {s s' : Shared} {scope : Scope} {ce : Env} {it : Addr} (J : L2.Inv (X.blk s H scope ce [it]) [] σ' H' s') (n : H' it = none) : FpOk (X.blk s H scope ce [it]) [] H' it :=
  have m : it ∈ [it] := List.mem_singleton.mpr rfl
  ⟨n, (J.ok.exf it m).1, J.ok.exfs it m, .inl m, (J.ok.exf it m).2, fun _ z => nomatch z⟩
theorem lc_hot {pins : List (Addr × Obj)} {s : Shared} {σ : L2.St} {H : Hp} {Q : VK} {elt tg l : Expr} {ifs : List Expr} {scope : Scope} {own : List (Str × Nat)} {pos pos' : Pos} {tl : TE} {g : TG} {tt : TT} {te : TE} {use : Option (Value → Sem Unit)} {Qf : Value → Shared → Prop}
    (hc : HotC X) (hN : X.N.Nodup) (I : L2.Inv X pins σ H s) (hi : PE X l tl) (ok : BlkOk X.N X.env.scope scope own)
    (hg : ∀ s H C cl fp, (∀ {pins : List (Addr × Obj)} {σ : L2.St} {H' : Hp} {s' : Shared}, L2.Inv (X.blk s H scope (compEnvC scope cl C X.env) fp) pins σ H' s' → ∃ x1, HotAt X.A x1 s'.heap) → PG (X.blk s H scope (compEnvC scope cl C X.env) fp) tg g) (ht : ∀ s H C cl fp, PTs (X.blk s H scope (compEnvC scope cl C X.env) fp) ifs tt) (he : ∀ s H C cl fp, PE (X.blk s H scope (compEnvC scope cl C X.env) fp) elt te)
    (hs : ∀ x, foldedSetIterable l X.env x = pure x) (h : tLc (iList X.K tl) g tt te (own.map (·.2)) σ H Q)
    (out : ∀ D C s' m H', L2.Inv X pins σ H' s' → Q (.ref D) H' → s'.heap.Ns C m → FpOk X pins H' C → compPost (model X.prog X.w) X.A X.xe use Qf (.ref D) C (.ok .next) s') :
    wpAny (model X.prog X.w) X.A (comprehension (.ListComp elt [⟨tg, l, ifs, 0⟩] scope pos) scope X.env pos' (newList []) false (eval l X.env) use) Qf X.xe s := by
  have fr : ∀ y ∈ scope.names, y.2 = .free → ∃ c, X.env.cells.lookup y.1 = some c := fun y hy e => I.ok.has _ (ok.free y hy e)
  refine wpAny_comprehension_free (use := use) rfl hs (closure_ok fr) ok.kind (fun y hy e => by rw [ok.uniq y hy, e]) (thn (hi.run pins s σ H _ I h) fun xv s1 ⟨x, H2, I1, rx, a, ex, ⟨xs, hq⟩, q⟩ => ?_)
  subst ex
  cases rx
  obtain ⟨its, rv, pl, hz⟩ := I1.list hq
  refine wpAny_pyIter_list pl.isList ?_
  -- the iterator
  obtain ⟨s2, es2⟩ : ∃ s2 : Shared, s2 = { s1 with heap := s1.heap.push { cls := .type "list_iterator", data := .fields #[.ref a, .int 0 0] } } := ⟨_, rfl⟩
  obtain ⟨it, eit⟩ : ∃ it : Addr, it = s1.heap.objs.size := ⟨_, rfl⟩
  have hit : s2.heap.IsListIter it a 0 := by
    rw [es2, eit]
    exact ⟨_, Heap.get?_push_size _ rfl, rfl, rfl⟩
  have I2 : L2.Inv X pins σ H2 s2 := by
    rw [es2]
    exact I1.kept (t' := s1.toks) fun b o e => Heap.get?_push_of_some _ e
  have f2 : FpOk X pins H2 it := by
    rw [eit]
    exact I1.fpOk (Nat.le_refl _) (I1.hok.fresh (Nat.le_refl _))
  rw [← es2, ← eit]
  clear es2 eit I1 pl rv
  -- the list that comes, the block
  refine wpAny_newObj_type (newEnv_comp ?_) (by show 0 ≤ sizeLine; decide)
  obtain ⟨D, eD⟩ : ∃ D : Addr, D = s2.heap.objs.size := ⟨_, rfl⟩
  obtain ⟨W, ⟨m0, w0⟩, turn⟩ := q D (I2.hok.fresh (Nat.le_of_eq eD.symm))
  obtain ⟨s3, es3⟩ : ∃ s3 : Shared, s3 = { s2 with heap := s2.heap.push { cls := .type "list", data := .seq ([] : List Value).toArray } } := ⟨_, rfl⟩
  have h3 : s3.heap = s2.heap.push { cls := .type "list", data := .seq ([] : List Value).toArray } := by rw [es3]
  have I3 : L2.Inv X pins σ (upd H2 D (.lst [])) s3 := by
    rw [es3]
    refine I2.laid (t' := s2.toks) (fun b o e => Heap.get?_push_of_some _ e) (Nat.le_of_eq eD.symm) ⟨Nat.zero_le _, [], 0, .nil, ?_⟩
    rw [eD]
    exact Heap.get?_push_size _ rfl
  have lt : it < s2.heap.objs.size := by
    obtain ⟨o, e, _⟩ := hit
    exact Heap.lt_size e
  have nD : it ≠ D := by rw [eD]; exact Nat.ne_of_lt lt
  have f3 : FpOk X pins (upd H2 D (.lst [])) it := ⟨by rw [upd_ne nD]; exact f2.1, f2.2⟩
  have I4 := block_start (fp := [it]) I3 ok hN fun b hb => by
    rw [List.mem_singleton.mp hb, h3, Heap.size_push]
    exact ⟨f3, Nat.lt_succ_of_lt lt⟩
  have hit3 : s3.heap.IsListIter it a 0 := hit.at fun o e => by rw [h3]; exact Heap.get?_push_of_some _ e
  rw [← es3, ← eD]
  show codeAny _ _ (.compStart (.ListComp elt [⟨tg, l, ifs, 0⟩] scope pos) 0 (.ref it) (.ref D) (compEnvC scope (cellsFrom (s3.heap.objs.size + 1) scope.names (cloFrom X.env.cells scope.names [])) s3.heap.objs.size X.env)) (compPost (model X.prog X.w) X.A X.xe use Qf (.ref D) s3.heap.objs.size) { s3 with heap := pushCells (s3.heap.push { cls := .type "dict", data := .dict #[] }) scope.names }
  have pg := hg s3 (upd H2 D (.lst [])) s3.heap.objs.size (cellsFrom (s3.heap.objs.size + 1) scope.names (cloFrom X.env.cells scope.names [])) [it]
  have pt := ht s3 (upd H2 D (.lst [])) s3.heap.objs.size (cellsFrom (s3.heap.objs.size + 1) scope.names (cloFrom X.env.cells scope.names [])) [it]
  have pe := he s3 (upd H2 D (.lst [])) s3.heap.objs.size (cellsFrom (s3.heap.objs.size + 1) scope.names (cloFrom X.env.cells scope.names [])) [it]
  have cL : (compEnvC scope (cellsFrom (s3.heap.objs.size + 1) scope.names (cloFrom X.env.cells scope.names [])) s3.heap.objs.size X.env).locals = s3.heap.objs.size := rfl
  generalize compEnvC scope (cellsFrom (s3.heap.objs.size + 1) scope.names (cloFrom X.env.cells scope.names [])) s3.heap.objs.size X.env = ce at I4 pg pt pe cL ⊢
  have hit4 : (pushCells (s3.heap.push { cls := .type "dict", data := .dict #[] }) scope.names).IsListIter it a 0 := hit3.at fun o e => pushCells_keeps _ _ _ _ (Heap.get?_push_of_some _ e)
  generalize upd H2 D (.lst []) = H3 at I3 I4 pg pt pe w0 f3
  obtain ⟨p, h1, hp⟩ := hc
  have pni : p.1 ≠ it := f3.2.2.2.2.2 p (List.mem_append_left _ hp)
  have pg := pg fun {pn σ' H' s'} J => by
    obtain ⟨hh, vs1, d1, c1⟩ := h1
    exact ⟨p.1, hh, p.2, vs1, blk_pin hp I3 pni J, d1, c1⟩
  have loop : codeAny (model X.prog X.w) X.A (.compLoop (.ListComp elt [⟨tg, l, ifs, 0⟩] scope pos) 0 (.ref it) (.ref D) ce) (compPost (model X.prog X.w) X.A X.xe use Qf (.ref D) s3.heap.objs.size) { s3 with heap := pushCells (s3.heap.push { cls := .type "dict", data := .dict #[] }) scope.names } := by
    refine compLoop_any (fun n s' => ∃ i H', L2.Inv (X.blk s3 H3 scope ce [it]) [] (wipe σ (own.map (·.2))) H' s' ∧ s'.heap.IsListIter it a i ∧ H' it = none ∧ W i n H') ?_ m0 ⟨0, H3, I4, hit4, f3.1, w0⟩
    intro n s5 ⟨i, H5, I5, st5, n5, w5⟩
    have F5 := blk_fp I5 n5
    rcases turn i n H5 w5 with ⟨⟨ys, hy, hi⟩, qq⟩ | ⟨⟨ys, y, hy, hyi⟩, Nx, hNx, step⟩
    · obtain ⟨its5, r5, p5, _⟩ := I5.list hy
      obtain ⟨hh, vs1, d1, c1⟩ := h1
      refine end_hot (x1 := p.1) ⟨hh, p.2, vs1, blk_pin hp I3 pni I5, d1, c1⟩ pni st5 p5.isList (by have := r5.length; simp; omega) fun h' k => ?_
      have I6 : L2.Inv (X.blk s3 H3 scope ce [it]) [] (wipe σ (own.map (·.2))) H5 { s5 with heap := h' } := I5.turned (t' := s5.toks) k F5.1 F5.2.1 F5.2.2.2.1 F5.2.2.2.2.1 F5.2.2.2.2.2
      have I7 : L2.Inv X pins σ H5 { s5 with heap := h' } := I3.call' (ch := [it]) I6.os I6.base I6.hok I6.bare fun b hb => by
        rw [List.mem_singleton.mp hb]
        exact ⟨f3.2.2.2.1, f3.2.1, f3.2.2.2.2.1, f3.2.2.2.2.2⟩
      have nC : H5 s3.heap.objs.size = none := cL ▸ I6.free
      obtain ⟨m, hn, _⟩ := I6.loc
      exact out D s3.heap.objs.size _ m H5 I7 qq (cL ▸ hn) (I3.fpOk (Nat.le_refl _) nC)
    · obtain ⟨its5, r5, p5, _⟩ := I5.list hy
      obtain ⟨u, hu, ru⟩ := r5.get hyi
      refine wpAny_pyNext_list_item st5 p5.isList (x := u) (by simpa using hu) fun h' st6 sb => ?_
      have I6 : L2.Inv (X.blk s3 H3 scope ce [it]) [] (wipe σ (own.map (·.2))) H5 { s5 with heap := h' } := I5.turned (t' := s5.toks) (fun b o hb e => (sb.2 b hb).trans e) F5.1 F5.2.1 F5.2.2.2.1 F5.2.2.2.2.1 F5.2.2.2.2.2
      obtain ⟨o6, e6, k6, d6⟩ := id st6
      refine go_of (s := { s5 with heap := h' }) e6 k6 d6 (by decide) ?_
      have I7 := I6.pinned (fp := [it]) (fun b hb => by rw [List.mem_singleton.mp hb]; exact blk_fp I6 n5) fun b hb => by
        rw [List.mem_singleton.mp hb]
        exact ⟨o6, e6, fun v z => by rw [d6] at z; cases z⟩
      refine thnF (pg.run _ _ _ H5 y u _ I7 ru (step y H5 ⟨rfl, fun zs hz => by rw [I5.list_inj hz hy]; exact hyi⟩)) fun _ s8 ⟨σ8, H8, I8, w8, q8⟩ => ?_
      refine thnF (pt.run _ s8 σ8 H8 _ I8 q8) fun c s9 ⟨H9, I9, q9⟩ => ?_
      have done : ∀ {s' : Shared} {H' : Hp}, L2.Inv (X.blk s3 H3 scope ce [it]) ([] ++ pinsAt [it] h') σ8 H' s' → Nx H' → ∃ m, m < n ∧ ∃ i H', L2.Inv (X.blk s3 H3 scope ce [it]) [] (wipe σ (own.map (·.2))) H' s' ∧ s'.heap.IsListIter it a i ∧ H' it = none ∧ W i m H' := fun {s' H'} J nx => by
        obtain ⟨m', hm, w'⟩ := hNx H' nx
        have pin := J.pin (it, o6) (List.mem_append_right _ (List.mem_append_right _ (mem_pinsAt List.mem_cons_self e6)))
        refine ⟨m', hm, i + 1, H', (J.unpinned (pins := [])).weak (by rw [← w8, wipe_length]) (fun j v e => ?_), ⟨o6, pin.1, k6, d6⟩, pin.2.1, w'⟩
        rw [← w8] at e
        exact (wipe_some e).1
      cases c with
      | false =>
        rw [if_neg Bool.false_ne_true] at q9 ⊢
        exact done I9 q9
      | true =>
        rw [if_pos rfl] at q9 ⊢
        exact thnF (pe.run _ s9 σ8 H9 _ I9 q9) fun z s10 ⟨yv, H10, I10, r10, acc, hD, hzz, nx⟩ => app_ok (X := X.blk s3 H3 scope ce [it]) I10 hD hzz r10 fun s11 I11 => done I11 nx
  exact codeAny_compStart_list loop (wpAny_pyIter_listiter hit4 loop)
theorem ps_setH {i : Nat} {y : Str} {py : Pos} {elt tg l : Expr} {ifs : List Expr} {scope : Scope} {own : List (Str × Nat)} {pos spos : Pos} {tl : TE} {g : TG} {tt : TT} {te : TE} (hc : HotC X) (hN : X.N.Nodup) (hy : X.N[i]? = some y) (hl : X.env.scope.names.lookup y = some .local)
    (sw : swapsWith (.ListComp elt [⟨tg, l, ifs, 0⟩] scope pos) (some (.Name y py)) spos.line X.env = pure true) (hi : PE X l tl) (ok : BlkOk X.N X.env.scope scope own)
    (hg : ∀ s H C cl fp, (∀ {pins : List (Addr × Obj)} {σ : L2.St} {H' : Hp} {s' : Shared}, L2.Inv (X.blk s H scope (compEnvC scope cl C X.env) fp) pins σ H' s' → ∃ x1, HotAt X.A x1 s'.heap) → PG (X.blk s H scope (compEnvC scope cl C X.env) fp) tg g) (ht : ∀ s H C cl fp, PTs (X.blk s H scope (compEnvC scope cl C X.env) fp) ifs tt) (he : ∀ s H C cl fp, PE (X.blk s H scope (compEnvC scope cl C X.env) fp) elt te)
    (hs : ∀ x, foldedSetIterable l X.env x = pure x := by intro _; rfl) : PS X (.Assign [.Name y py] (.ListComp elt [⟨tg, l, ifs, 0⟩] scope pos) spos) (tAsg (tLc (iList X.K tl) g tt te (own.map (·.2))) (gName i)) := by
  refine ⟨fun pins s σ H D I h => ?_⟩
  have h : tLc (iList X.K tl) g tt te (own.map (·.2)) σ H (fun x H1 => gName i x σ H1 D.nx) := h
  rw [exec_Assign_Name_used _ _ _ _ sw]
  refine wpAny_bind (wpAny_standAt (wpAny_bind ?_))
  show wpAny _ X.A (do let _ ← comprehension (.ListComp elt [⟨tg, l, ifs, 0⟩] scope pos) scope X.env (firstIterPos [⟨tg, l, ifs, 0⟩] pos) (newList []) false (eval l X.env) (some (assign (.Name y py) X.env))) _ _ s
  have core := lc_hot (pos := pos) (pos' := firstIterPos [⟨tg, l, ifs, 0⟩] pos) (use := some (assign (.Name y py) X.env)) (Qf := fun _ s' => SP X pins D .next s') hc hN I hi ok hg ht he hs h fun L C s' m H' J q ns ⟨f0, f1, f2, f3, f4, f5⟩ => by
    show wpAny _ _ (assign (.Name y py) X.env (.ref L)) _ _ _
    refine wpAny_assign_Name (store_ok2 (v := V.ref L) J hN hy (.inl hl) rfl (fun s2 I2 ⟨a, sb, ha⟩ => ⟨m, ns.sameBut sb ?_, fun h3 sb3 => ⟨_, H', I2.turned (t' := s2.toks) (fun b o hb e => (sb3.2 b hb).trans e) f0 f1 f3 f4 f5, q⟩⟩) (.inr hl))
    rcases ha with z | z
    · rw [z]; exact f1
    · exact Ne.symm (f4 y a z)
  exact wpAny_bind (thn core fun _ s' hq => wpAny_pure (wpAny_pure hq))
end
end Wr

set_option Elab.async false
set_option linter.all false
set_option maxRecDepth 100000
set_option maxHeartbeats 4000000
namespace Wr
open PySem PySem.Spec PyProof.Rows L2 HotX L2H
/-! ### a def that is handed the exception that is handled -/
structure FnE (P : Program) (w : World) (K : PySem.W.Frag) (mg : Str → Option Value) (base : Heap) (k : Nat) (f : Addr) (fd : FuncData) (ps : List Str) (sp : Addr × Obj → Sp) : Prop where
  len : ∀ p vs H Q E, sp p vs H Q E → vs.length = ps.length
  run : ∀ (p : Addr × Obj) (A : Around) (outer : List Env) (s : Shared) (H : Hp) (args : Args) (us : List Value) (vs : List V) (Q : VK) (E : XK), RoomH k A → Hot1 A p → PinOk outer H s p → Env0 P w K mg base A outer s H → BindsTo s fd args (ps.zip us) → Vals vs us → sp p vs H Q E →
    codeAny (model P w) A (.call (.ref f) args) (CR CX0 outer P w H s Q E) s
theorem fn_ofE {P : Program} {w : World} {K : PySem.W.Frag} {mg : Str → Option Value} {base : Heap} {k : Nat} {f : Addr} {name qual : Str} {params : Arguments} {body : List Stmt} {scope : Scope} {dV kV doc pm cdv ct oc : Value} {an od : Option Addr}
    {osl : Array (Option Value)} {N ps : List Str} {sp : Addr × Obj → Sp} (lk : K.lookup f = some ⟨oc, od, .func (PySem.W.fnOf name qual params body scope dV kV doc pm an cdv ct), osl⟩) (hcd : PySem.W.codeIn K cdv qual = true) (S : FnScope N ps scope) (len : ∀ p vs H Q E, sp p vs H Q E → vs.length = ps.length)
    (hbody : ∀ (p : Addr × Obj) (A : Around) (outer : List Env) (s : Shared) (H : Hp) (vs : List V) (Q : VK) (E : XK), Hot1 A p → RoomH k (A.deeper (envOfC qual scope s.heap.objs.size f cdv)) → sp p vs H Q E → ∃ t, PSs (cxH CX0 P w K mg base N qual scope f cdv A outer s H E p) body t ∧ t { nx := fun _ H' => Q .non H', rt := Q } (L2.start N vs) H) :
    FnE P w K mg base (k + 1) f (PySem.W.fnOf name qual params body scope dV kV doc pm an cdv ct) ps sp := by
  refine ⟨len, fun p A outer s H args us vs Q E room hot pin e0 bind rv h => ?_⟩
  obtain ⟨t, ht, hq⟩ := hbody p A outer s H vs Q E hot (room.deeper _) h
  have old := fun b o e => (e0.bs b o e).1
  have inS : K.In s.heap := e0.mod.kin.keeps old
  refine codeAny_call_function room.depth (inS _ _ lk) rfl S.co S.gen rfl (PySem.W.codeRec_of inS hcd) (bind _ _ _ _ (wpAny_newFunctionEnv_cells S.kind (fun ⟨n, v⟩ hy => ?_) fun env ee s1 ic => ?_))
  · exact (S.par n (List.of_mem_zip hy).1).imp id fun c => ⟨c, PySem.W.cellsFrom_some _ _ _ (.inl c)⟩
  · subst ee
    have I := inv_startH (CX := CX0) (mg := mg) (E := E) S pin e0 (len _ _ _ _ _ h) rv ic
    refine ⟨(e0.mod.nolimit.keeps old).keeps ic.toInCall.keep, codeAny_func (wpAny_mono (ht.run [] s1 _ H _ I hq) (fun fl s' hs => ?_) fun _ _ hs => hs)⟩
    rcases fl with _ | _ | _ | u
    all_goals first
      | (obtain ⟨v, σ', H', J, r', q'⟩ := hs; exact ⟨v, H', J.os, J.bare, J.base, J.hok, r', q'⟩)
      | (obtain ⟨σ', H', J, q'⟩ := hs; exact ⟨V.non, H', J.os, J.bare, J.base, J.hok, rfl, q'⟩)
      | (obtain ⟨_, _, _, q'⟩ := hs; exact False.elim q')
def tCallE (sp : Addr × Obj → Sp) (p : Addr × Obj) (t : TA) : TE := fun σ H Q => t σ H fun vs H1 => sp p vs H1 Q fun _ _ _ => False
section
variable {X : Cx} {k : Nat} {f : Addr} {fd : FuncData} {ps : List Str} {sp : Addr × Obj → Sp} {x : Str} {q pos : Pos} {e : Expr} {es : List Expr} {t : TA} {p : Addr × Obj}
theorem pe_callE (F : FnE X.prog X.w X.K X.mg X.base k f fd ps sp) (hr : RoomH k X.A) (hot : Hot1 X.A p) (hp : p ∈ X.pn) (hg : Gl X x) (hm : X.mg x = some (.ref f)) (hk : PySem.W.keepIn X.K (.ref f) = true) (hb : Binds X.K fd ps []) (ha : PA X (e :: es) t)
    (hdb : (x == ("__debug__" : Str)) = false := by decide) (he : starEach (e :: es) X.env = (false, eval e X.env) :: starEach es X.env := by rfl) (hpl : (backTo pos (starEach es X.env)).any (·.1) = false := by rfl) : PE X (.Call (.Name x q) (e :: es) [] pos) (tCallE sp p t) := by
  refine ⟨fun pins s σ H Q I h => wpAny_Call_Name_kw (ld_glob I hg hm (PySem.W.callWith_K (h₀ := X.base) I.ok.mod.kin hk (thn (ha.run pos pins s σ H _ I h) fun us s1 ⟨vs, H1, I1, r, q1⟩ => ⟨I1.kIn, ?_⟩) he hpl) hdb)⟩
  have hl : us.length = ps.length := by rw [← r.length]; exact F.len _ _ _ _ _ q1
  have b := hb s1 us I1.kIn (by rw [List.append_nil]; exact hl)
  rw [List.append_nil] at b
  have a := I1.pin p (List.mem_append_left _ hp)
  have nf : p.1 ∉ frs X.stack := fun hm => (List.mem_cons.mp (I1.stkSub p.1 hm)).elim a.2.2.1 a.2.2.2.1
  refine wpAny_call (codeAny_mono (F.run p X.A X.stack s1 H1 ⟨us, []⟩ us vs Q _ hr hot ⟨a.1, a.2.1, nf, a.2.2.2.2⟩ I1.env0 b r q1) fun r s' hq => ?_)
  rcases r with e | fl
  · exact hq.elim
  · rcases fl with _ | _ | _ | u
    all_goals first
      | exact I1.after hq
      | exact False.elim hq
end
/-! ### isinstance of the exception that is handled -/
structure IsxC (K : PySem.W.Frag) (C : Addr) : Prop where
  cl : (PySem.W.clsIn K C).isSome = true
  ga : PySem.W.findIn K (.ref C) "__getattribute__" = some (some (.builtin "BaseException.__getattribute__"))
  gg : PySem.W.findIn K (.ref C) "__getattr__" = some none
  sb : PySem.W.subIn K (.ref C) (.type "BaseException") = some true
  ca : PySem.W.findIn K (.ref C) "__class__" = some (some (.builtin "object.__class__"))
  sp : PySem.W.specialIn K (.builtin "object.__class__") "__get__" = some (some (.builtin "getset_descriptor.__get__"))
  tk : PySem.W.takesIn K (.builtin "object.__class__") = some true
  mr : PySem.W.mroIn K C (.type "object") = some true
/-- what p is: of the class C, with a dict that is tracked, or none -/
def PinC (C : Addr) (H : Hp) (p : Addr × Obj) : Prop := p.2.cls = .ref C ∧ (∃ vs, p.2.data = .fields vs) ∧ ((∃ dd fs, p.2.dict = some dd ∧ H dd = some (.xd fs)) ∨ p.2.dict = none)
def rIsP (K : PySem.W.Frag) (C : Addr) (p : Addr × Obj) : List V → Hp → VK → Prop := fun xs H Q => PinC C H p ∧ ∃ (c : V) (cv : Value) (k : Bool), xs = [.ref p.1, c] ∧ (∀ u, RelV c u → u = cv) ∧ PySem.W.kitOne K (.ref C) cv = some k ∧ Q (.bl k) H
theorem call_isP {X : Cx} {C : Addr} {p : Addr × Obj} (T : IsxC X.K C) (hd : PySem.W.hasDictIn X.K C = true) (hp : p ∈ X.pn) : CallR X (.builtin "isinstance") (rIsP X.K C p) := by
  intro pins s σ H xs us Q I r ⟨⟨hc, ⟨vs, hv⟩, hdd⟩, c, cv, k, ex, hu, hk, q⟩
  subst ex
  have get := (I.pin p (List.mem_append_left _ hp)).1
  have nc : PySem.W.notCls p.2 = true := by unfold PySem.W.notCls; rw [hv] <;> rfl
  cases r with
  | cons rx rr =>
    cases rr with
    | cons rt rr =>
      cases rr
      cases rx
      have ec := hu _ rt
      subst ec
      rcases hdd with ⟨dd, fs, e1, e2⟩ | e1
      · obtain ⟨mA, hns, hr⟩ := (show ObjOk X.prog X.w H s.heap dd (.xd fs) from I.hok dd _ e2)
        obtain ⟨od, ho, _⟩ := lookIn_ns hns
        have J : PySem.W.InstAt s.heap p.1 p.2 C (some od) := ⟨get, hc, nc, by rw [e1]; exact ho⟩
        exact PySem.W.kia_one (PySem.W.kitx_exc T.cl T.ga T.gg T.sb T.ca T.sp T.tk T.mr) I.kIn J hk (fun z => nomatch z) fun tk => ⟨.bl k, H, I.kept (t' := tk) fun _ _ z => z, rfl, q⟩
      · have J : PySem.W.InstAt s.heap p.1 p.2 C none := ⟨get, hc, nc, by rw [e1]; trivial⟩
        exact PySem.W.kia_one (PySem.W.handS_kitx_exc T.ga T.gg T.sb hd T.ca T.sp T.tk T.mr) I.kIn J hk (fun z => nomatch z) fun tk => ⟨.bl k, H, I.kept (t' := tk) fun _ _ z => z, rfl, q⟩
end Wr

set_option Elab.async false
set_option linter.all false
set_option maxRecDepth 100000
set_option maxHeartbeats 4000000
namespace Wr
open PySem PySem.Spec PyProof.Rows L2
abbrev s_is_program : Stmt := topS 33
abbrev s_are_rows : Stmt := topS 34
abbrev s_is_row : Stmt := topS 35
abbrev s_take : Stmt := topS 153
abbrev s_bag : Stmt := topS 152
abbrev s_check : Stmt := topS 36
abbrev s_part_number : Stmt := topS 39
abbrev s_names_in : Stmt := topS 42
abbrev s_standings : Stmt := topS 72
abbrev s_part_paper : Stmt := topS 139
abbrev s_callers : Stmt := topS 43
abbrev s_is_sound : Stmt := topS 73
abbrev s_show_program : Stmt := topS 147
abbrev s_row_at : Stmt := topS 40
abbrev s_agree : Stmt := topS 75
abbrev s_rows_paper : Stmt := topS 140
abbrev s_is_hook : Stmt := topS 96
abbrev s_holds : Stmt := topS 125
abbrev s_begun : Stmt := topS 89
abbrev s_run_paper : Stmt := topS 141
abbrev s_walked : Stmt := topS 144
abbrev s_wi : Stmt := inClass (topS 150) 0
abbrev s_ki : Stmt := topS 154
abbrev s_od : Stmt := topS 155
abbrev s_no : Stmt := topS 156
abbrev s_as : Stmt := topS 157
abbrev s_place : Stmt := topS 37
abbrev s_law : Stmt := topS 158
end Wr

set_option Elab.async false
set_option linter.all false
set_option maxRecDepth 100000
set_option maxHeartbeats 4000000
/-! the head by the kernel's run, looked at by names -/
namespace Hd
open PySem PySem.Spec PyProof.Rows L2
/-- what an object names, as far as it is looked at -/
def refsF (o : Obj) : List Addr := match o.data with
  | .func fd => He.refV fd.code ++ (He.refV fd.defaults ++ He.refV fd.kwdefaults)
  | .cls cd => [cd.ns]
  | .seq its _ => its.toList.flatMap He.refV
  | .dict es _ => es.toList.flatMap fun e => He.refV e.val
  | _ => []
def stepA (g : Addr → Option Obj) (as : List Addr) : List Addr := as.flatMap fun a => match g a with
  | some o => refsF o
  | none => []
/-- the list, its numbers reckoned out -/
def frL {β : Type} : List Addr → (List Addr → β) → β
  | [], k => k []
  | a :: r, k => HandSHeadRun.frNat a fun a => frL r fun r => k (a :: r)
theorem frL_eq {β : Type} : ∀ (l : List Addr) (k : List Addr → β), frL l k = k l
  | [], _ => rfl
  | a :: r, k => by
    unfold frL
    rw [HandSHeadRun.frNat_eq, frL_eq r]
def goA {β : Type} (g : Addr → Option Obj) : Nat → List Addr → List Addr → (List Addr → β) → β
  | 0, acc, _, k => k acc
  | n + 1, acc, as, k => frL (stepA g as) fun as' => goA g n (acc ++ as') as' k
theorem goA_is {β : Type} (g : Addr → Option Obj) : ∀ (n : Nat) (acc as : List Addr) (k : List Addr → β), ∃ l, goA g n acc as k = k l
  | 0, acc, _, _ => ⟨acc, rfl⟩
  | n + 1, acc, as, k => by
    obtain ⟨l, e⟩ := goA_is g n (acc ++ stepA g as) (stepA g as) k
    refine ⟨l, ?_⟩
    unfold goA
    rw [frL_eq, e]
def kwAt (f : Str × Option Str) (x : Str) (K : PySem.W.Frag) : Addr := match K.lookup (He.fAd K f) with
  | some ⟨_, _, .func fd, _⟩ => (match fd.kwdefaults with
    | .ref D => (match PySem.W.nsIn K D x with
      | some (some (.ref a)) => a
      | _ => 0)
    | _ => 0)
  | _ => 0
/-- a tuple of texts -/
def wordB (K : PySem.W.Frag) (x : Str) (ws : List Str) : Bool := match K.lookup (He.ga K x) with
  | some ⟨.type c, none, .seq its _, _⟩ => decide (c = "tuple") && (decide (its.size ≤ sizeLine) && He.relAll (ws.map V.str) its.toList)
  | _ => false
theorem wordB_ok {K : PySem.W.Frag} {x : Str} {ws : List Str} (h : wordB K x ws = true) (H : Hp) : SqT K H (He.ga K x) (ws.map V.str) ∧ Wr.TN K H (He.ga K x) := by
  unfold wordB at h
  cases q : K.lookup (He.ga K x) with
  | none => rw [q] at h; cases h
  | some o =>
    obtain ⟨oc, od, dt, osl⟩ := o
    rw [q] at h
    cases oc with
    | type c =>
      cases od with
      | none =>
        cases dt with
        | seq its n =>
          obtain ⟨h1, h2⟩ := He.ba (show (decide (c = "tuple") && (decide (its.size ≤ sizeLine) && He.relAll (ws.map V.str) its.toList)) = true from h)
          obtain ⟨h3, h4⟩ := He.ba h2
          have e : Value.type c = .type "tuple" := congrArg Value.type (of_decide_eq_true h1)
          exact ⟨.inr ⟨_, its, n, q, e, rfl, of_decide_eq_true h3, He.relAll_ok h4⟩, .inr ⟨_, q, e, rfl⟩⟩
        | _ => cases h
      | some a => cases dt <;> cases h
    | _ => cases od <;> cases dt <;> cases h
section
variable (fa : List He.Fa) (fn : List He.DefD) (ex : PySem.W.Frag → List Bool)
def obsK (K : PySem.W.Frag) : He.AlD × Bool := (He.obsD fa fn K, (ex K).all id)
def obsW (g : Addr → Option Obj) : He.AlD × Bool := goA g 4 [mainGlobals] [mainGlobals] fun as => obsK fa fn ex (He.frG g as)
/-- what the head tells -/
structure Says (K : PySem.W.Frag) : Prop where
  d : He.SaysD fa fn K
  m : (ex K).all id = true
theorem says_of {h : Heap} (e : obsW fa fn ex h.get? = (He.valD fn, true)) : ∃ K : PySem.W.Frag, K.In h ∧ Says fa fn ex K := by
  obtain ⟨l, el⟩ := goA_is h.get? 4 [mainGlobals] [mainGlobals] fun as => obsK fa fn ex (He.frG h.get? as)
  unfold obsW at e
  rw [el] at e
  exact ⟨He.frG h.get? l, He.frG_in, congrArg (fun z : He.AlD × Bool => z.1) e, congrArg (fun z : He.AlD × Bool => z.2) e⟩
def hookW : PySem.W.Hook where
  α := He.AlD × Bool
  obs := fun s => obsW fa fn ex s.heap.get?
  val := fun _ => (He.valD fn, true)
  says := fun _ h => ∃ K : PySem.W.Frag, K.In h ∧ Says fa fn ex K
  of := fun _ _ e => says_of fa fn ex e
  keeps := fun _ _ _ ⟨K, hK, c⟩ k => ⟨K, PySem.W.Frag.In.keeps hK k, c⟩
theorem obsW_eq {g : Addr → Option Obj} {s : Shared} (h : ∀ a, g a = s.heap.get? a) : obsW fa fn ex g = (hookW fa fn ex).obs s := by
  have e : g = s.heap.get? := funext h
  rw [e] <;> rfl
end
section
variable {fa : List He.Fa} {fn : List He.DefD} {ex : PySem.W.Frag → List Bool} {K : PySem.W.Frag}
theorem Says.at_ (c : Says fa fn ex K) (i : Nat) {b : Bool} (h : (ex K)[i]? = some b) : b = true := by
  have := List.all_eq_true.mp c.m b (List.mem_of_getElem? h)
  exact this
theorem run3 {α β γ δ : Type} {o : Option α} {f1 : α → β} {f2 : α → γ} {f3 : α → δ} {a : β} {b : γ} {c : δ} (h1 : o.map f1 = some a) (h2 : o.map f2 = some b) (h3 : o.map f3 = some c) : o.map (fun s => (f1 s, f2 s, f3 s)) = some (a, b, c) := by
  cases o with
  | none => cases h1
  | some s =>
    have e1 := Option.some.inj h1
    have e2 := Option.some.inj h2
    have e3 := Option.some.inj h3
    show some (f1 s, f2 s, f3 s) = some (a, b, c)
    rw [e1, e2, e3]
theorem runEq3 {r : PySem.W.OpenRow} {q : Program} {H : PySem.W.Hook} {ob : PySem.W.SharedT → H.α} {M : Nat} {loose : List Str} {w : World}
    (h1 : ∀ os : OsState, (HandSHeadRun.endF (HandSHeadRun.stepQ (HandSHeadRun.denQ HandSHeadRun.tabQ) r.prog w) M r.prog w os).map (fun s => HandSHeadRun.looksF r.prog (PySem.W.boot_heap w.params) s.abs) = some true)
    (h2 : ∀ os : OsState, (HandSHeadRun.endF (HandSHeadRun.stepQ (HandSHeadRun.denQ HandSHeadRun.tabQ) r.prog w) M r.prog w os).map (fun s => HandSHeadRun.seenQ q loose (PySem.importedModules r.prog.main.body) (fun s => PySem.W.xlAt q [] s && PySem.W.recOk r.toRowW.records s) s.abs) = some (PySem.W.openGood q loose))
    (h3 : ∀ os : OsState, (HandSHeadRun.endF (HandSHeadRun.stepQ (HandSHeadRun.denQ HandSHeadRun.tabQ) r.prog w) M r.prog w os).map ob = some (H.val w)) : HandSHeadRun.RunEq r q H ob M loose w := fun os => run3 (h1 os) (h2 os) (h3 os)
/-- a def of the module, no defaults -/
theorem def_of {mg : Str → Option Value} {x : Str} {st : Stmt} {ps : List Str} {f : Addr} {fd : FuncData} (F : FunD K x x (defArgs st) (defBody st) (defScope st) [] [] f fd) (m : mg x = some (.ref f))
    (hb : ∀ (kV doc pm : Value) (an : Option Addr) (cdv ct : Value) (us : List Value), us.length = ps.length → bindArgs (PySem.W.fnOf x x (defArgs st) (defBody st) (defScope st) .none kV doc pm an cdv ct) ⟨us, []⟩ = pure (ps.zip us)) : Wr.Def K mg x st ps f fd := by
  have b := F.bindsN hb
  obtain ⟨oc, od, dV, kV, doc, pm, an, cdv, ct, osl, e, lk, hcd, hD, _⟩ := F.ex
  rcases hD with ⟨_, rfl⟩ | ⟨z, _⟩
  · exact ⟨⟨⟨oc, od, kV, doc, pm, an, cdv, ct, osl, e, lk, hcd⟩, F.kp⟩, b, m⟩
  · exact absurd rfl z
end
end Hd

set_option Elab.async false
set_option linter.all false
set_option maxRecDepth 100000
set_option maxHeartbeats 0
namespace Wr
open PySem PySem.Spec PyProof.Rows L2
/-! ### the head -/
abbrev RR : PySem.W.OpenRow := PySem.W.OpenLaw.row PySem.Challenge.rw_watchedrun_k02_first_of_all_no_program
def nms0 : List Str := ["_wall", "MOST_WORTH", "MOST_LETTERS", "MOST_NAMES", "is_whole", "is_worth", "is_index", "is_name", "are_names", "are_unlike", "is_headed", "are_headed", "own_copy", "NoProgram", "NoPart", "NoRow", "TooLong", "Unsound", "NoNumbers", "NoHook", "TooMany", "Busy", "NoText", "NoWord", "NoMark", "MOST_PARTS", "MOST_PART_ROWS", "NAME_WORDS", "ROW_WORDS", "LONE_WORDS"]
def nms1 : List Str := ["is_program", "are_rows", "is_row", "check_program", "place_of", "rows_of", "part_number", "row_at", "check_row", "names_in", "callers", "called_by", "OVER_BY_NOUGHT", "NO_WORTH", "NOT_SET", "TOO_DEEP", "NONE_WATCHED", "NOT_LET", "MOST_BEGUN", "op_outcome", "op_number", "ROW_DUE", "hook_of", "moment_of", "at_moment", "gone_on", "topped", "level_start", "depth_of", "is_inner"]
def nms2 : List Str := ["rank_of", "watched_place", "with_name", "worth_of_name", "BEGINNING", "TAKEN_AND_GIVEN", "standings", "is_sound", "is_sound_part", "agree", "check_sound", "sound_rows", "surveyed", "walk_to", "taken_and_given", "lacks", "leads", "KINDS", "Moment", "HOOK_NAMES", "MOST_HOOKS", "begun", "first_state", "check_numbers", "are_numbers", "new_frame", "check_hooks", "are_hooks", "is_hook", "can_hook"]
def nms3 : List Str := ["are_kinds", "is_where", "OPS", "WATCHING_WORDS", "TURNED_KINDS", "row_done", "piled", "call_done", "frame_behind", "op_behind", "got_behind", "watching_done", "changed_watched", "are_alike", "changed", "hook_due", "fits", "hook_begun", "back_over", "fault_over", "caught_over", "over_next", "run_on", "MOST_STATES", "holds", "standing_by", "are_row_numbers", "standing_led_to", "ends_wrong", "ends_in_two_ways"]
def nms4 : List Str := ["compares", "shows_sound", "is_shown", "leaves_out", "is_run", "is_just", "has_truths", "part_paper", "rows_paper", "run_paper", "MOST_ROWS", "walked", "Trace", "show_program", "NOTHING_BEGUN", "Watch", "_law_bag", "_law_take", "_law_kind", "_law_odd", "_law_none", "_law_asked"]
def nms : List Str := nms0 ++ nms1 ++ nms2 ++ nms3 ++ nms4
def dF0 : He.DefD := ⟨("is_whole", none), "is_whole", "is_whole", defArgs s_is_whole, defBody s_is_whole, defScope s_is_whole, [], []⟩
def dF1 : He.DefD := ⟨("is_worth", none), "is_worth", "is_worth", defArgs s_is_worth, defBody s_is_worth, defScope s_is_worth, [], []⟩
def dF2 : He.DefD := ⟨("is_index", none), "is_index", "is_index", defArgs s_is_index, defBody s_is_index, defScope s_is_index, [], []⟩
def dF3 : He.DefD := ⟨("is_name", none), "is_name", "is_name", defArgs s_is_name, defBody s_is_name, defScope s_is_name, [], []⟩
def dF4 : He.DefD := ⟨("are_names", none), "are_names", "are_names", defArgs s_are_names, defBody s_are_names, defScope s_are_names, [], []⟩
def dF5 : He.DefD := ⟨("are_unlike", none), "are_unlike", "are_unlike", defArgs s_are_unlike, defBody s_are_unlike, defScope s_are_unlike, [], []⟩
def dF6 : He.DefD := ⟨("is_headed", none), "is_headed", "is_headed", defArgs s_is_headed, defBody s_is_headed, defScope s_is_headed, [], []⟩
def dF7 : He.DefD := ⟨("are_headed", none), "are_headed", "are_headed", defArgs s_are_headed, defBody s_are_headed, defScope s_are_headed, [], []⟩
def dF8 : He.DefD := ⟨("is_program", none), "is_program", "is_program", defArgs s_is_program, defBody s_is_program, defScope s_is_program, [], []⟩
def dF9 : He.DefD := ⟨("are_rows", none), "are_rows", "are_rows", defArgs s_are_rows, defBody s_are_rows, defScope s_are_rows, [], []⟩
def dF10 : He.DefD := ⟨("is_row", none), "is_row", "is_row", defArgs s_is_row, defBody s_is_row, defScope s_is_row, [], []⟩
def dF11 : He.DefD := ⟨("check_program", none), "check_program", "check_program", defArgs s_check, defBody s_check, defScope s_check, [], []⟩
def dF12 : He.DefD := ⟨("place_of", none), "place_of", "place_of", defArgs s_place, defBody s_place, defScope s_place, [], []⟩
def dF13 : He.DefD := ⟨("part_number", none), "part_number", "part_number", defArgs s_part_number, defBody s_part_number, defScope s_part_number, [], []⟩
def dF14 : He.DefD := ⟨("names_in", none), "names_in", "names_in", defArgs s_names_in, defBody s_names_in, defScope s_names_in, [], []⟩
def dF15 : He.DefD := ⟨("standings", none), "standings", "standings", defArgs s_standings, defBody s_standings, defScope s_standings, [], []⟩
def dF16 : He.DefD := ⟨("part_paper", none), "part_paper", "part_paper", defArgs s_part_paper, defBody s_part_paper, defScope s_part_paper, [], []⟩
def dF17 : He.DefD := ⟨("callers", none), "callers", "callers", defArgs s_callers, defBody s_callers, defScope s_callers, [], []⟩
def dF18 : He.DefD := ⟨("is_sound", none), "is_sound", "is_sound", defArgs s_is_sound, defBody s_is_sound, defScope s_is_sound, [], []⟩
def dF19 : He.DefD := ⟨("show_program", none), "show_program", "show_program", defArgs s_show_program, defBody s_show_program, defScope s_show_program, [], []⟩
def dF20 : He.DefD := ⟨("row_at", none), "row_at", "row_at", defArgs s_row_at, defBody s_row_at, defScope s_row_at, [], []⟩
def dF21 : He.DefD := ⟨("agree", none), "agree", "agree", defArgs s_agree, defBody s_agree, defScope s_agree, [], []⟩
def dF22 : He.DefD := ⟨("rows_paper", none), "rows_paper", "rows_paper", defArgs s_rows_paper, defBody s_rows_paper, defScope s_rows_paper, [], []⟩
def dF23 : He.DefD := ⟨("is_hook", none), "is_hook", "is_hook", defArgs s_is_hook, defBody s_is_hook, defScope s_is_hook, [], []⟩
def dF24 : He.DefD := ⟨("holds", none), "holds", "holds", defArgs s_holds, defBody s_holds, defScope s_holds, [], []⟩
def dF25 : He.DefD := ⟨("_law_bag", none), "_law_bag", "_law_bag", defArgs s_bag, defBody s_bag, defScope s_bag, [], []⟩
def dF26 : He.DefD := ⟨("_law_take", none), "_law_take", "_law_take", defArgs s_take, defBody s_take, defScope s_take, [], []⟩
def dF27 : He.DefD := ⟨("_law_kind", none), "_law_kind", "_law_kind", defArgs s_ki, defBody s_ki, defScope s_ki, [], []⟩
def dF28 : He.DefD := ⟨("_law_odd", none), "_law_odd", "_law_odd", defArgs s_od, defBody s_od, defScope s_od, [], []⟩
def dF29 : He.DefD := ⟨("_law_none", none), "_law_none", "_law_none", defArgs s_no, defBody s_no, defScope s_no, [], []⟩
def dF30 : He.DefD := ⟨("_law_asked", none), "_law_asked", "_law_asked", defArgs s_as, defBody s_as, defScope s_as, [], []⟩
def dF31 : He.DefD := ⟨("law", none), "law", "law", defArgs s_law, defBody s_law, defScope s_law, [], []⟩
def dF32 : He.DefD := ⟨("begun", none), "begun", "begun", defArgs s_begun, defBody s_begun, defScope s_begun, [.adr (He.dflAt ("begun", none) 0)], []⟩
def dF33 : He.DefD := ⟨("walked", none), "walked", "walked", defArgs s_walked, defBody s_walked, defScope s_walked, [.adr (He.dflAt ("walked", none) 0)], [("most", .int 200)]⟩
def dF34 : He.DefD := ⟨("run_paper", none), "run_paper", "run_paper", defArgs s_run_paper, defBody s_run_paper, defScope s_run_paper, [.adr (He.dflAt ("run_paper", none) 0)], [("most", .int 40)]⟩
def dF35 : He.DefD := ⟨("Watch", some "__init__"), "__init__", "Watch.__init__", defArgs s_wi, defBody s_wi, defScope s_wi, [], [("hooks", .adr (Hd.kwAt ("Watch", some "__init__") "hooks"))]⟩
def fnL : List He.DefD := [dF0, dF1, dF2, dF3, dF4, dF5, dF6, dF7, dF8, dF9, dF10, dF11, dF12, dF13, dF14, dF15, dF16, dF17, dF18, dF19, dF20, dF21, dF22, dF23, dF24, dF25, dF26, dF27, dF28, dF29, dF30, dF31, dF32, dF33, dF34, dF35]
def faL : List He.Fa := [.glo "is_whole", .glo "is_worth", .glo "is_index", .glo "is_name", .glo "are_names", .glo "are_unlike", .glo "is_headed", .glo "are_headed", .glo "is_program", .glo "are_rows", .glo "is_row", .glo "check_program", .glo "place_of", .glo "part_number", .glo "names_in", .glo "standings", .glo "part_paper", .glo "callers", .glo "is_sound", .glo "show_program", .glo "row_at", .glo "agree", .glo "rows_paper", .glo "is_hook", .glo "holds", .glo "_law_bag", .glo "_law_take", .glo "_law_kind", .glo "_law_odd", .glo "_law_none", .glo "_law_asked", .glo "law", .glo "walked", .glo "begun", .glo "run_paper", .glo "Watch", .glo "NoProgram", .glo "NoPart", .glo "NoRow", .glo "TooLong", .glo "Unsound", .glo "NoNumbers", .glo "NoHook", .glo "TooMany", .glo "Busy", .glo "NoText", .glo "NoWord", .glo "NoMark", .glo "NAME_WORDS", .glo "ROW_WORDS", .glo "LONE_WORDS", .free "isinstance", .free "len", .free "all", .free "enumerate", .free "set", .free "int", .free "bool", .free "str", .free "tuple", .free "list", .free "range", .free "abs", .free "max", .free "min", .free "repr", .free "ValueError", .free "KeyError", .free "IndexError", .free "OverflowError", .free "LookupError", .free "RuntimeError", .int "MOST_WORTH" 1000000000000, .int "MOST_LETTERS" 8, .int "MOST_NAMES" 3, .int "MOST_PART_ROWS" 60, .int "MOST_PARTS" 8, .exc "NoProgram", .mkr "Watch"]
def exL (K : PySem.W.Frag) : List Bool := [(PySem.W.clsIn K (He.ga K "NoProgram")).isSome,
  decide (PySem.W.findIn K (.ref (He.ga K "NoProgram")) "__getattribute__" = some (some (.builtin "BaseException.__getattribute__"))),
  decide (PySem.W.findIn K (.ref (He.ga K "NoProgram")) "__getattr__" = some none),
  decide (PySem.W.subIn K (.ref (He.ga K "NoProgram")) (.type "BaseException") = some true),
  decide (PySem.W.findIn K (.ref (He.ga K "NoProgram")) "__class__" = some (some (.builtin "object.__class__"))),
  decide (PySem.W.specialIn K (.builtin "object.__class__") "__get__" = some (some (.builtin "getset_descriptor.__get__"))),
  decide (PySem.W.takesIn K (.builtin "object.__class__") = some true),
  decide (PySem.W.mroIn K (He.ga K "NoProgram") (.type "object") = some true),
  PySem.W.hasDictIn K (He.ga K "NoProgram"),
  decide (PySem.W.kitOne K (.ref (He.ga K "NoProgram")) (.ref (He.ga K "NoProgram")) = some true),
  decide (PySem.W.kitOne K (.ref (He.ga K "NoProgram")) (.ref (He.ga K "NoPart")) = some false),
  decide (PySem.W.kitOne K (.ref (He.ga K "NoProgram")) (.ref (He.ga K "NoRow")) = some false),
  decide (PySem.W.kitOne K (.ref (He.ga K "NoProgram")) (.ref (He.ga K "TooLong")) = some false),
  decide (PySem.W.kitOne K (.ref (He.ga K "NoProgram")) (.ref (He.ga K "Unsound")) = some false),
  decide (PySem.W.kitOne K (.ref (He.ga K "NoProgram")) (.ref (He.ga K "NoNumbers")) = some false),
  decide (PySem.W.kitOne K (.ref (He.ga K "NoProgram")) (.ref (He.ga K "NoHook")) = some false),
  decide (PySem.W.kitOne K (.ref (He.ga K "NoProgram")) (.ref (He.ga K "TooMany")) = some false),
  decide (PySem.W.kitOne K (.ref (He.ga K "NoProgram")) (.ref (He.ga K "Busy")) = some false),
  decide (PySem.W.kitOne K (.ref (He.ga K "NoProgram")) (.ref (He.ga K "NoText")) = some false),
  decide (PySem.W.kitOne K (.ref (He.ga K "NoProgram")) (.ref (He.ga K "NoWord")) = some false),
  decide (PySem.W.kitOne K (.ref (He.ga K "NoProgram")) (.ref (He.ga K "NoMark")) = some false),
  decide (PySem.W.kitOne K (.ref (He.ga K "NoProgram")) (.type "ValueError") = some true),
  decide (PySem.W.kitOne K (.ref (He.ga K "NoProgram")) (.type "KeyError") = some false),
  decide (PySem.W.kitOne K (.ref (He.ga K "NoProgram")) (.type "IndexError") = some false),
  decide (PySem.W.kitOne K (.ref (He.ga K "NoProgram")) (.type "OverflowError") = some false),
  decide (PySem.W.kitOne K (.ref (He.ga K "NoProgram")) (.type "LookupError") = some false),
  decide (PySem.W.kitOne K (.ref (He.ga K "NoProgram")) (.type "RuntimeError") = some false),
  decide (PySem.W.exmAny K (.ref (He.ga K "NoProgram")) [(.ref (He.ga K "NoProgram")), (.ref (He.ga K "NoPart")), (.ref (He.ga K "NoRow")), (.ref (He.ga K "Unsound")), (.ref (He.ga K "NoNumbers")), (.ref (He.ga K "NoHook")), (.ref (He.ga K "TooLong")), (.ref (He.ga K "TooMany")), (.ref (He.ga K "NoText")), (.ref (He.ga K "NoWord")), (.ref (He.ga K "NoMark")), (.ref (He.ga K "Busy"))] = some true),
  Hd.wordB K "NAME_WORDS" Wr.nameW,
  Hd.wordB K "ROW_WORDS" Wr.rowW,
  Hd.wordB K "LONE_WORDS" Wr.loneW]
abbrev hkW : PySem.W.Hook := Hd.hookW faL fnL exL
def obW (s : PySem.W.SharedT) : He.AlD × Bool := Hd.obsW faL fnL exL (HandSHeadRun.getT s)
theorem obW_eq (s : PySem.W.SharedT) : obW s = hkW.obs s.abs := Hd.obsW_eq faL fnL exL (HandSHeadRun.getT_eq s)
abbrev qW : Program := PySem.W.view RR.prog [158]
noncomputable abbrev enW (w : World) (os : OsState) := HandSHeadRun.endF (HandSHeadRun.stepQ (HandSHeadRun.denQ HandSHeadRun.tabQ) RR.prog w) 30000 RR.prog w os
end Wr

set_option Elab.async false
set_option linter.all false
set_option maxRecDepth 100000
set_option maxHeartbeats 0
namespace Wr
open PySem PySem.Spec PyProof.Rows L2
theorem r1F (w : World) (os : OsState) : (HandSHeadRun.endF (HandSHeadRun.stepQ (HandSHeadRun.denQ HandSHeadRun.tabQ) RR.prog (w.withFollow "special-get-raises" false)) 30000 RR.prog (w.withFollow "special-get-raises" false) os).map (fun s => HandSHeadRun.looksF RR.prog (PySem.W.boot_heap (w.withFollow "special-get-raises" false).params) s.abs) = some true := by kernel_rfl
theorem r2F (w : World) (os : OsState) : (HandSHeadRun.endF (HandSHeadRun.stepQ (HandSHeadRun.denQ HandSHeadRun.tabQ) RR.prog (w.withFollow "special-get-raises" false)) 30000 RR.prog (w.withFollow "special-get-raises" false) os).map (fun s => HandSHeadRun.seenQ qW nms (PySem.importedModules RR.prog.main.body) (fun s => PySem.W.xlAt qW [] s && PySem.W.recOk RR.toRowW.records s) s.abs) = some (PySem.W.openGood qW nms) := by kernel_rfl
theorem r3F (w : World) (os : OsState) : (HandSHeadRun.endF (HandSHeadRun.stepQ (HandSHeadRun.denQ HandSHeadRun.tabQ) RR.prog (w.withFollow "special-get-raises" false)) 30000 RR.prog (w.withFollow "special-get-raises" false) os).map obW = some (hkW.val (w.withFollow "special-get-raises" false)) := by kernel_rfl
theorem r1T (w : World) (os : OsState) : (HandSHeadRun.endF (HandSHeadRun.stepQ (HandSHeadRun.denQ HandSHeadRun.tabQ) RR.prog (w.withFollow "special-get-raises" true)) 30000 RR.prog (w.withFollow "special-get-raises" true) os).map (fun s => HandSHeadRun.looksF RR.prog (PySem.W.boot_heap (w.withFollow "special-get-raises" true).params) s.abs) = some true := by kernel_rfl
theorem r2T (w : World) (os : OsState) : (HandSHeadRun.endF (HandSHeadRun.stepQ (HandSHeadRun.denQ HandSHeadRun.tabQ) RR.prog (w.withFollow "special-get-raises" true)) 30000 RR.prog (w.withFollow "special-get-raises" true) os).map (fun s => HandSHeadRun.seenQ qW nms (PySem.importedModules RR.prog.main.body) (fun s => PySem.W.xlAt qW [] s && PySem.W.recOk RR.toRowW.records s) s.abs) = some (PySem.W.openGood qW nms) := by kernel_rfl
theorem r3T (w : World) (os : OsState) : (HandSHeadRun.endF (HandSHeadRun.stepQ (HandSHeadRun.denQ HandSHeadRun.tabQ) RR.prog (w.withFollow "special-get-raises" true)) 30000 RR.prog (w.withFollow "special-get-raises" true) os).map obW = some (hkW.val (w.withFollow "special-get-raises" true)) := by kernel_rfl
theorem runW (w : World) : HandSHeadRun.RunEq RR qW hkW obW 30000 nms w := PySem.W.byRow2 "special-get-raises" (P := fun w => HandSHeadRun.RunEq RR qW hkW obW 30000 nms w)
  (fun w => Hd.runEq3 (r1F w) (r2F w) (r3F w)) (fun w => Hd.runEq3 (r1T w) (r2T w) (r3T w)) w
end Wr

set_option Elab.async false
set_option linter.all false
set_option maxRecDepth 100000
set_option maxHeartbeats 4000000
namespace Wr
open PySem PySem.Spec PyProof.Rows L2 Evl
theorem hu64 {A : Around} {k : Nat} (hr : Room k A) : A.units + 64 < cLine := hr.units
theorem hu65 {A : Around} {k : Nat} (hr : Room k A) : A.units + 65 < cLine := by have := hr.un; omega
section
variable {K : PySem.W.Frag} {b : List Addr} {σ : L2.St} {H H' : Hp} {ta te : TE} {tt : TT} {d : PyData} {ds : List PyData}
theorem all_map {α : Type} (xs : List α) (g : α → Bool) : (xs.map g).all id = xs.all g := by
  rw [List.all_map]
  rfl
theorem ed_allT {k : Nat} {g : PyData → Bool} (kn : Kn b H) (ha : ED K b ta σ H (.tuple ds)) (hl : ds.length ≤ 1000)
    (he : ∀ d v H3, d ∈ ds → Ex H H3 → Dq K b H3 v d → ED K b te ((wipe σ [k]).set k (some v)) H3 (.bool (g d))) :
    ED K b (tCB (rAll K) (tCons (tLc (iTup K ta) (gName k) tYes te [k]) tNil)) σ H (.bool (ds.all g)) := by
  have h := ed_lcT1 (K := K) (b := b) (k := k) (f := fun d => .bool (g d)) kn ha (Nat.lt_of_le_of_lt hl (by decide)) he fun _ _ => rfl
  have e : ds.map (fun d => PyData.bool (g d)) = (ds.map g).map PyData.bool := by rw [List.map_map]; rfl
  exact (ed_all (h.to (by rw [e]))).to (by rw [all_map])
theorem eqv_int (i j : Int) : PyData.eqv (.int i) (.int j) = (i == j) := by simp only [PyData.eqv]
theorem sh_int (i : Int) : SeqAt.shaped (.int i) = true := by
  show ((PyData.int i).canLay0 && decide ((PyData.int i).depth ≤ 64)) = true
  simp only [PyData.canLay0, PyData.depth]
  rfl
theorem sh_bool (i : Bool) : SeqAt.shaped (.bool i) = true := by
  show ((PyData.bool i).canLay0 && decide ((PyData.bool i).depth ≤ 64)) = true
  simp only [PyData.canLay0, PyData.depth]
  rfl
theorem sh_none : SeqAt.shaped .none = true := by
  show (PyData.none.canLay0 && decide (PyData.none.depth ≤ 64)) = true
  simp only [PyData.canLay0, PyData.depth]
  rfl
theorem strsOf_map (xs : List Str) : strsOf (xs.map PyData.str) = xs := by
  induction xs with
  | nil => rfl
  | cons x r ih =>
    show (x :: strsOf (r.map PyData.str)) = x :: r
    rw [ih]
theorem map_strsOf : ∀ {ds : List PyData}, ds.all (isD "str") = true → (strsOf ds).map PyData.str = ds
  | [], _ => rfl
  | d :: ds, h => by
    rw [List.all_cons, Bool.and_eq_true] at h
    obtain ⟨x, rfl⟩ := isD_str h.1
    show PyData.str x :: (strsOf ds).map PyData.str = .str x :: ds
    rw [map_strsOf h.2]
theorem nameD_str {d : PyData} (h : nameD d = true) : isD "str" d = true := by
  cases d <;> first | rfl | cases h
theorem names_strs {ds : List PyData} (h : ds.all nameD = true) : ds.all (isD "str") = true :=
  List.all_eq_true.mpr fun d hd => nameD_str (List.all_eq_true.mp h d hd)
theorem strsOf_len {ds : List PyData} : (strsOf ds).length ≤ ds.length := List.length_filterMap_le _ _
end
def unlikeD (d : PyData) : Bool := match d with
  | .tuple ds => unlikeS (strsOf ds)
  | .list ds => unlikeS (strsOf ds)
  | _ => false
def StrSeq (d : PyData) : Prop := ∃ xs : List Str, xs.length ≤ 1000 ∧ (d = .list (xs.map PyData.str) ∨ d = .tuple (xs.map PyData.str))
section
variable {P : Program} {w : World} {K : PySem.W.Frag} {mg : Str → Option Value} {base : Heap} {f g g2 g3 : Addr} {fd gd gd2 gd3 : FuncData}
theorem ok_are_unlike (D : Def K mg "are_unlike" s_are_unlike ["names"] f fd) (B : Blt mg) :
    FnOk P w K mg base CX0 1 f fd ["names"] (spP K (fun ds => ds.length = 1 ∧ ∀ d, ds = [d] → StrSeq d) (F1 unlikeD)) := by
  refine D.F.ok sc_are_unlike (fun vs H Q E h => spP_len (fun _ h => h.1) h) (fun cdv A outer s H vs Q E hr h => ?_)
  obtain ⟨b, ds, kn, hd, ⟨hp, hp2⟩, q⟩ := h
  obtain ⟨v, d, rfl, rfl, h1⟩ := one_of hd hp
  obtain ⟨xs, hl, hx⟩ := hp2 d rfl
  refine ⟨_, pss_one (ps_ret (pe_cmpR (op_eqD (hu64 hr)) (pe_callB call_lenK rfl B.len bb_len (pa_cons (pe_callTy (cr_setS rfl) rfl B.set bt_set (pa_cons (pv 0) pa_nil)) pa_nil))
    (pe_callB call_lenD1 rfl B.len bb_len (pa_cons (pv 0) pa_nil)) (nomark _))), ?_⟩
  have hk : isD "str" d = true ∨ isD "list" d = true ∨ isD "tuple" d = true := by
    rcases hx with rfl | rfl
    · exact .inr (.inl rfl)
    · exact .inr (.inr rfl)
  have hn : ∀ x, d = .str x → x.length ≤ sizeLine := by
    rcases hx with rfl | rfl <;> intro x e <;> cases e
  refine SR.fin (sr_ret ((ed_eq (ed_lenSet (ed_var rfl h1) hx hl) (ed_len (ed_var rfl h1) hk hn) (sh_int _) (sh_int _)).to ?_)) q
  have e1 : lenD d = xs.length := by
    rcases hx with rfl | rfl <;> exact List.length_map _
  have e2 : unlikeD d = unlikeS xs := by
    rcases hx with rfl | rfl <;> (show unlikeS (strsOf (xs.map PyData.str)) = _; rw [strsOf_map])
  show _ = PyData.bool (unlikeD d)
  rw [e1, e2, eqv_int]
  unfold unlikeS
  by_cases h : (uq xs).length = xs.length
  · rw [h, decide_eq_true rfl, beq_self_eq_true]
  · have h' : ((uq xs).length : Int) ≠ (xs.length : Int) := by omega
    rw [decide_eq_false h, beq_eq_false_iff_ne.mpr h']
theorem ok_are_names (D : Def K mg "are_names" s_are_names ["thing"] f fd) (D1 : Def K mg "is_name" s_is_name ["thing"] g gd) (D2 : Def K mg "are_unlike" s_are_unlike ["names"] g2 gd2) (B : Blt mg) {t t2 : Tok} (mL : mg "MOST_LETTERS" = some (.int 8 t)) (mN : mg "MOST_NAMES" = some (.int 3 t2)) :
    FnOk P w K mg base CX0 2 f fd ["thing"] (spP K (fun ds => ds.length = 1 ∧ ∀ d, ds = [d] → okD 30 d = true) (F1 namesD)) := by
  refine D.F.ok sc_are_names (fun vs H Q E h => spP_len (fun _ h => h.1) h) (fun cdv A outer s H vs Q E hr h => ?_)
  obtain ⟨b, ds, kn, hd, ⟨hp, hok⟩, q⟩ := h
  obtain ⟨v, d, rfl, rfl, h1⟩ := one_of hd hp
  have hok := hok d rfl
  refine ⟨_, pss_cons (ps_if (PW.pt (pw_or (pt_not (pt_val (pe_callB call_isi rfl B.isi bb_isinstance (pa_cons (pv 0) (pa_cons (pe_tyN rfl B.tuple bt_tuple) pa_nil)))))
      (pw_or1 (pt_cmpR op_gt (pe_callB call_lenD1 rfl B.len bb_len (pa_cons (pv 0) pa_nil)) (pe_gI mN) (nomark _))))) (pss_one (ps_ret pe_bl)) pss_nil)
    (pss_one (ps_ret (pe_and (pe_callB (cr_all rfl) rfl B.all bb_all (pa_cons
      (pe_lc (own := [("name", 1)]) (g := gName 1) (tt := tYes) rfl sc_are_names.nd (pi_tup (pv 0)) (blkOk_by (N := ["thing", "name"]) (sc := defScope s_are_names) (by decide +kernel)) (fun _ _ _ _ _ => pg_name (i := 1) sc_are_names.nd rfl (Or.inl rfl)) (fun _ _ _ _ _ => pts_nil)
        (fun _ _ _ _ _ => pe_cd D1 (ok_is_name D1 B mL) hr (pa_cons (pv 1) pa_nil))) pa_nil))
      (pe_one (pe_cd D2 (ok_are_unlike D2 B) hr (pa_cons (pv 0) pa_nil)))))), ?_⟩
  have t1 := et_n (et_b (ed_isi (K := K) (b := b) (σ := start ["thing", "name"] [v]) (H := H) (T := "tuple") (.inr (.inr (.inr (.inl rfl)))) (ed_var (i := 0) rfl h1)))
  cases hs : isD "tuple" d with
  | false =>
    rw [hs] at t1
    refine SR.fin ((sr_if (e := .none) (et_or (b := false) t1 fun h => nomatch h) (fun _ => sr_ret ed_bl) fun h => nomatch h).to ?_) q
    have : namesD d = false := by
      cases d <;> first | rfl | (simp [isD, dTy, tyIs] at hs)
    show PyData.bool false = .bool (namesD d)
    rw [this]
  | true =>
    obtain ⟨ds, rfl⟩ := isD_tuple hs
    rw [hs] at t1
    have hlen := ok_len hok
    have tl := et_or t1 fun _ => et_t (ed_gt (K := K) (b := b) (ed_len (ed_var (i := 0) rfl h1) (.inr (.inr hs)) fun y e => by cases e) (ed_c (v := .int 3) (.int 3)))
    refine SR.fin ((sr_if tl (fun _ => sr_ret ed_bl) fun hc => sr_ret (ed_andB (k := unlikeS (strsOf ds)) (ed_allT (g := nameD) kn (ed_var rfl h1) hlen fun e v' H3 he x3 hv => ed_call (kn.up x3) (ea_cons (ed_var rfl hv) ea_nil) (by exact ⟨rfl, fun e' h' => by cases h'; exact ok_up (ok_items (n := 29) hok e he) (by omega)⟩)) fun ha => ?_)).to ?_) q
    · have e1 := map_strsOf (names_strs ha)
      refine (ed_call (K := K) (f := F1 unlikeD) kn (ea_cons (ed_var (i := 0) rfl h1) ea_nil) ?_).to rfl
      refine ⟨rfl, fun e' h' => ?_⟩
      cases h'
      exact ⟨strsOf ds, Nat.le_trans strsOf_len hlen, .inr (by rw [e1])⟩
    · show _ = PyData.bool (decide (ds.length ≤ 3) && (ds.all nameD && unlikeS (strsOf ds)))
      by_cases h3 : ds.length ≤ 3
      · have e1 : decide ((3 : Int) < (lenD (.tuple ds) : Nat)) = false := decide_eq_false (by show ¬ (3 : Int) < (ds.length : Nat); omega)
        rw [e1, decide_eq_true h3]
        rfl
      · have e1 : decide ((3 : Int) < (lenD (.tuple ds) : Nat)) = true := decide_eq_true (by show (3 : Int) < (ds.length : Nat); omega)
        rw [e1, decide_eq_false h3]
        rfl
end
end Wr

set_option Elab.async false
set_option linter.all false
set_option maxRecDepth 100000
set_option maxHeartbeats 4000000
namespace Wr
open PySem PySem.Spec PyProof.Rows L2 Evl
theorem sc_is_program : FnScope ["thing", "called", "part"] ["thing"] (defScope s_is_program) := ⟨rfl, rfl, rfl, by decide +kernel, rfl, by decide +kernel, by decide +kernel⟩
theorem sc_are_rows : FnScope ["thing", "called", "at", "row"] ["thing", "called"] (defScope s_are_rows) := ⟨rfl, rfl, rfl, by decide +kernel, rfl, by decide +kernel, by decide +kernel⟩
theorem sc_is_row : FnScope ["thing", "at", "many", "called", "word", "told"] ["thing", "at", "many", "called"] (defScope s_is_row) := ⟨rfl, rfl, rfl, by decide +kernel, rfl, by decide +kernel, by decide +kernel⟩
section
variable {K : PySem.W.Frag} {b : List Addr} {σ : L2.St} {H H' : Hp} {ta te : TE} {tt : TT} {ts : TS} {d a c : PyData} {ds : List PyData}
theorem sr_unpack2 {i j : Nat} (h : ED K b te σ H (.tuple [a, c])) (k : ∀ v1 v2 H', Ex H H' → Dq K b H' v1 a → Dq K b H' v2 c → SR K b ts ((σ.set i (some v1)).set j (some v2)) H' d) :
    SR K b (tSeq (tAsg te (gTup K 2 (gCons (gName i) (gCons (gName j) gNil)))) ts) σ H d := fun H1 x1 D q =>
  h H1 x1 _ fun v H2 x2 hv => by
    cases hv with
    | tup h1 _ h2 =>
      cases h2 with
      | cons p1 p2 =>
        cases p2 with
        | cons p3 p4 =>
          cases p4
          exact ⟨_, _, rfl, ex_t hid_le h1, rfl, _, _, rfl, _, _, rfl, rfl, k _ _ H2 (x1.trans x2) p1 p3 H2 (Ex.refl H2) D fun z H4 x4 hz => q _ H4 (x2.trans x4) hz⟩
/-- [.. for i, x in enumerate(tuple)], flat items -/
theorem ed_lcE {k1 k2 : Nat} {f : Nat → PyData → PyData} (kn : Kn b H) (ha : ED K b ta σ H (.tuple ds)) (hl : ds.length < sizeLine)
    (hw : ∀ x y, wipe (((wipe σ [k1, k2]).set k1 x).set k2 y) [k1, k2] = wipe σ [k1, k2])
    (he : ∀ i d v H3, ds[i]? = some d → Ex H H3 → Dq K b H3 v d → ED K b te (((wipe σ [k1, k2]).set k1 (some (.int (i : Nat)))).set k2 (some v)) H3 (f i d)) (hf : ∀ i d, ds[i]? = some d → flatP (f i d) = true) :
    ED K b (tLc (iEnumT K (tCons ta tNil)) (gTup K 2 (gCons (gName k1) (gCons (gName k2) gNil))) tYes te [k1, k2]) σ H (.list ((List.range ds.length).map fun i => f i (ds.getD i .none))) := fun H1 x1 Q q =>
  ha H1 x1 _ fun x H2 x2 hx => by
    cases hx with
    | @tup a xs _ h1 _ h2 =>
      have hlen := dps_len h2
      refine ⟨a, xs, rfl, ex_t hid_le h1, fun D hD => ?_⟩
      refine lc_it walk_enumT (fun i H3 => Ex H2 H3 ∧ H3 D = some (.lst (((List.range i).map fun i => f i (ds.getD i .none)).map vOf))) ⟨Ex.new hD, upd_same⟩ (fun i H3 _ h => ex_t h.1 (ex_t hid_le h1)) ?_ ?_
      · intro i x H3 H3' hi ⟨x3, e3⟩ ⟨T, y1, y2, ex, nT, eH, g1, g2⟩
        subst ex eH
        have e1 : y1 = .int (i : Nat) := (Option.some.inj g1).symm
        subst e1
        obtain ⟨d, gd, dd⟩ := dps_at h2 g2
        have xT : Ex H3 (upd H3 T (.tup [.int (i : Nat), y2])) := Ex.new nT
        refine ⟨T, [.int (i : Nat), y2], rfl, .inl (.inl upd_same), rfl, _, _, rfl, _, _, rfl, rfl, hw _ _, ?_⟩
        refine et_yes (H := upd H3 T (.tup [.int (i : Nat), y2])) _ (Ex.refl _) _ fun H4 x4 => ?_
        rw [if_pos rfl]
        have x3' : Ex H2 H4 := (x3.trans xT).trans x4
        refine he i d y2 _ gd ((x1.trans x2).trans x3') (Dq.up dd x3') _ (Ex.refl _) _ fun y H5 x5 hy => ?_
        have ey := dp_flat hy (hf i d gd)
        have hg : ds.getD i .none = d := by rw [List.getD_eq_getElem?_getD, gd, Option.getD_some]
        refine ⟨_, x5 _ _ (x4 _ _ (xT _ _ e3)), ?_, Ex.mut (x3'.trans x5) hD, ?_⟩
        · rw [List.length_map, List.length_map, List.length_range]
          have : xs.length < sizeLine := by rw [hlen]; exact hl
          omega
        · rw [upd_same, List.range_succ, List.map_append, List.map_append, ey]
          show some (HO.lst (_ ++ [vOf (f i d)])) = some (HO.lst (_ ++ [vOf (f i (ds.getD i .none))]))
          rw [hg]
      · intro H3 ⟨x3, e3⟩
        rw [hlen] at e3
        refine q _ H3 (x2.trans x3) (.lst (.inl (.inl ?_)) (flats_dp fun d hd => ?_))
        · rw [hid_ne ((kn.up (x1.trans x2)).new hD)]
          exact e3
        · obtain ⟨i, hi, rfl⟩ := List.mem_map.mp hd
          have hi' := List.mem_range.mp hi
          have g1 : ds[i]? = some ds[i] := List.getElem?_eq_getElem hi'
          have := hf i _ g1
          simp only [List.getD_eq_getElem?_getD, g1, Option.getD_some]
          exact this
theorem atI0 {α : Type} (x : α) (r : List α) : atI (x :: r) 0 = some x := atI_nat (j := 0) rfl
theorem atI1 {α : Type} (x y : α) (r : List α) : atI (x :: y :: r) 1 = some y := atI_nat (j := 1) rfl
theorem atI2 {α : Type} (x y z : α) (r : List α) : atI (x :: y :: z :: r) 2 = some z := atI_nat (j := 2) rfl
theorem sh_str {x : Str} (h : PyData.strOk x = true) : SeqAt.shaped (.str x) = true := by
  show ((PyData.str x).canLay0 && decide ((PyData.str x).depth ≤ 64)) = true
  simp only [PyData.canLay0, PyData.depth, h]
  rfl
theorem sh_strs {xs : List Str} (h : xs.all PyData.strOk = true) : SeqAt.shaped (.tuple (xs.map .str)) = true ∧ SeqAt.shaped (.list (xs.map .str)) = true := by
  have h1 : PyData.canLayAll0 (xs.map .str) = true := lay_all fun d hd => by
    obtain ⟨x, hx, rfl⟩ := List.mem_map.mp hd
    simp only [PyData.canLay0]
    exact List.all_eq_true.mp h x hx
  have h2 : PyData.depthAll (xs.map .str) ≤ 0 := depth_all fun d hd => by
    obtain ⟨x, hx, rfl⟩ := List.mem_map.mp hd
    simp only [PyData.depth]
    exact Nat.le_refl 0
  constructor
  · show ((PyData.tuple _).canLay0 && decide ((PyData.tuple _).depth ≤ 64)) = true
    simp only [PyData.canLay0, PyData.depth, h1, Bool.true_and]
    exact decide_eq_true (by omega)
  · show ((PyData.list _).canLay0 && decide ((PyData.list _).depth ≤ 64)) = true
    simp only [PyData.canLay0, PyData.depth, h1, Bool.true_and]
    exact decide_eq_true (by omega)
end
section
variable {P : Program} {w : World} {K : PySem.W.Frag} {mg : Str → Option Value} {base : Heap} {f g g2 g3 g4 g5 : Addr} {fd gd gd2 gd3 gd4 gd5 : FuncData}
theorem ok_is_headed (D : Def K mg "is_headed" s_is_headed ["thing"] f fd) (D1 : Def K mg "is_name" s_is_name ["thing"] g gd) (G1 : FnOk P w K mg base CX0 1 g gd ["thing"] (spP K (fun ds => ds.length = 1 ∧ ∀ d, ds = [d] → okD 30 d = true) (F1 nameD)))
    (D2 : Def K mg "are_names" s_are_names ["thing"] g2 gd2) (G2 : FnOk P w K mg base CX0 2 g2 gd2 ["thing"] (spP K (fun ds => ds.length = 1 ∧ ∀ d, ds = [d] → okD 30 d = true) (F1 namesD))) (B : Blt mg) :
    FnOk P w K mg base CX0 3 f fd ["thing"] (spP K (fun ds => ds.length = 1 ∧ ∀ d, ds = [d] → okD 30 d = true) (F1 headedD)) := by
  refine D.F.ok sc_is_headed (fun vs H Q E h => spP_len (fun _ h => h.1) h) (fun cdv A outer s H vs Q E hr h => ?_)
  obtain ⟨b, ds, kn, hd, ⟨hp, hok⟩, q⟩ := h
  obtain ⟨v, d, rfl, rfl, h1⟩ := one_of hd hp
  have hok := hok d rfl
  refine ⟨_, pss_one (ps_ret (pe_and (pe_callB call_isi rfl B.isi bb_isinstance (pa_cons (pv 0) (pa_cons (pe_tyN rfl B.tuple bt_tuple) pa_nil)))
    (pe_and (pe_cmpR (op_eqD (hu64 hr)) (pe_callB call_lenD1 rfl B.len bb_len (pa_cons (pv 0) pa_nil)) pe_int (nomark _))
    (pe_and (pe_cd D1 G1 (hr.mono (by decide)) (pa_cons (pe_ix ix_tup (pv 0) pe_int (fun _ _ => rfl)) pa_nil))
    (pe_one (pe_cd D2 G2 hr (pa_cons (pe_ix ix_tup (pv 0) pe_int (fun _ _ => rfl)) pa_nil))))))), ?_⟩
  have t1 := ed_isi (K := K) (b := b) (σ := start ["thing"] [v]) (H := H) (T := "tuple") (.inr (.inr (.inr (.inl rfl)))) (ed_var (i := 0) rfl h1)
  cases hs : isD "tuple" d with
  | false =>
    rw [hs] at t1
    refine SR.fin (sr_ret ((ed_andB (k := false) t1 fun h => nomatch h).to ?_)) q
    have : headedD d = false := by
      cases d <;> first | rfl | (simp [isD, dTy, tyIs] at hs)
    show PyData.bool false = .bool (headedD d)
    rw [this]
  | true =>
    obtain ⟨ds, rfl⟩ := isD_tuple hs
    rw [hs] at t1
    have t2 := ed_eq (K := K) (b := b) (σ := start ["thing"] [v]) (ed_len (ed_var (i := 0) rfl h1) (.inr (.inr hs)) fun y e => by cases e) (ed_int (i := 3)) (sh_int _) (sh_int _)
    by_cases h3 : ds.length = 3
    · obtain ⟨x, y, z, rfl⟩ : ∃ x y z, ds = [x, y, z] := by
        match ds, h3 with
        | [x, y, z], _ => exact ⟨x, y, z, rfl⟩
      have okx : ∀ e ∈ [x, y, z], okD 30 e = true := fun e he => ok_up (ok_items (n := 29) hok e he) (by omega)
      refine SR.fin (sr_ret ((ed_andB t1 fun _ => ed_andB t2 fun _ => ed_andB (ed_call kn (ea_cons (ed_ixT (ed_var rfl h1) ed_int (atI0 x [y, z])) ea_nil) ⟨rfl, fun e' h' => by cases h'; exact okx x (by simp)⟩)
        fun _ => ed_call kn (ea_cons (ed_ixT (ed_var rfl h1) ed_int (atI1 x y [z])) ea_nil) ⟨rfl, fun e' h' => by cases h'; exact okx y (by simp)⟩).to ?_)) q
      rw [eqv_int]
      rfl
    · have e3 : PyData.eqv (.int (lenD (.tuple ds) : Nat)) (.int 3) = false := by
        rw [eqv_int]
        exact beq_eq_false_iff_ne.mpr (by show ¬ ((ds.length : Nat) : Int) = 3; omega)
      rw [e3] at t2
      refine SR.fin (sr_ret ((ed_andB (k := false) t1 fun _ => ed_andB (k := false) t2 fun h => nomatch h).to ?_)) q
      have : headedD (.tuple ds) = false := by
        match ds, h3 with
        | [], _ => rfl
        | [_], _ => rfl
        | [_, _], _ => rfl
        | [_, _, _], h => exact absurd rfl h
        | _ :: _ :: _ :: _ :: _, _ => rfl
      show PyData.bool false = .bool (headedD _)
      rw [this]
theorem headed_fst {d : PyData} (h : headedD d = true) : ∃ a c e, d = .tuple [a, c, e] ∧ nameD a = true ∧ namesD c = true := by
  unfold headedD at h
  split at h
  · rename_i a c e
    rw [Bool.and_eq_true] at h
    exact ⟨a, c, e, rfl, h.1, h.2⟩
  · cases h
theorem ok_are_headed (D : Def K mg "are_headed" s_are_headed ["thing", "most"] f fd) (D1 : Def K mg "is_headed" s_is_headed ["thing"] g gd) (G1 : FnOk P w K mg base CX0 3 g gd ["thing"] (spP K (fun ds => ds.length = 1 ∧ ∀ d, ds = [d] → okD 30 d = true) (F1 headedD)))
    (D2 : Def K mg "are_unlike" s_are_unlike ["names"] g2 gd2) (B : Blt mg) :
    FnOk P w K mg base CX0 4 f fd ["thing", "most"] (spP K (fun ds => ds.length = 2 ∧ ∀ d n, ds = [d, n] → okD 30 d = true ∧ ∃ i, n = .int i) (F2 fun d n => headedAll d (intOf n))) := by
  refine D.F.ok sc_are_headed (fun vs H Q E h => spP_len (fun _ h => h.1) h) (fun cdv A outer s H vs Q E hr h => ?_)
  obtain ⟨b, ds, kn, hd, ⟨hp, hp2⟩, q⟩ := h
  obtain ⟨v, v2, d, n, rfl, rfl, h1, h2⟩ := two_of hd hp
  obtain ⟨hok, m, rfl⟩ := hp2 d n rfl
  refine ⟨_, pss_cons (ps_if (PW.pt (pw_or (pt_not (pt_val (pe_callB call_isi rfl B.isi bb_isinstance (pa_cons (pv 0) (pa_cons (pe_tyN rfl B.tuple bt_tuple) pa_nil)))))
      (pw_or1 (pt_not (pt_chain op_le op_le pe_int (pe_callB call_lenD1 rfl B.len bb_len (pa_cons (pv 0) pa_nil)) (pv 1)))))) (pss_one (ps_ret pe_bl)) pss_nil)
    (pss_one (ps_ret (pe_and (pe_callB (cr_all rfl) rfl B.all bb_all (pa_cons
      (pe_lc (own := [("one", 2)]) (g := gName 2) (tt := tYes) rfl sc_are_headed.nd (pi_tup (pv 0)) (blkOk_by (N := ["thing", "most", "one"]) (sc := defScope s_are_headed) (by decide +kernel)) (fun _ _ _ _ _ => pg_name (i := 2) sc_are_headed.nd rfl (Or.inl rfl)) (fun _ _ _ _ _ => pts_nil)
        (fun _ _ _ _ _ => pe_cd D1 G1 hr (pa_cons (pv 2) pa_nil))) pa_nil))
      (pe_one (pe_cd D2 (ok_are_unlike D2 B) (hr.mono (by decide)) (pa_cons
        (pe_lc (own := [("one", 2)]) (g := gName 2) (tt := tYes) rfl sc_are_headed.nd (pi_tup (pv 0)) (blkOk_by (N := ["thing", "most", "one"]) (sc := defScope s_are_headed) (by decide +kernel)) (fun _ _ _ _ _ => pg_name (i := 2) sc_are_headed.nd rfl (Or.inl rfl)) (fun _ _ _ _ _ => pts_nil)
          (fun _ _ _ _ _ => pe_ix (r := rIxT K) ix_tup (pv 2) pe_int (fun _ _ => rfl))) pa_nil)))))), ?_⟩
  have t1 := et_n (et_b (ed_isi (K := K) (b := b) (σ := start ["thing", "most", "one"] [v, v2]) (H := H) (T := "tuple") (.inr (.inr (.inr (.inl rfl)))) (ed_var (i := 0) rfl h1)))
  cases hs : isD "tuple" d with
  | false =>
    rw [hs] at t1
    refine SR.fin ((sr_if (e := .none) (et_or (b := false) t1 fun h => nomatch h) (fun _ => sr_ret ed_bl) fun h => nomatch h).to ?_) q
    have : headedAll d (intOf (.int m)) = false := by
      cases d <;> first | rfl | (simp [isD, dTy, tyIs] at hs)
    show PyData.bool false = .bool (headedAll d (intOf (.int m)))
    rw [this]
  | true =>
    obtain ⟨ds, rfl⟩ := isD_tuple hs
    rw [hs] at t1
    have hlen := ok_len hok
    have okx : ∀ e ∈ ds, okD 30 e = true := fun e he => ok_up (ok_items (n := 29) hok e he) (by omega)
    have tl := et_or t1 fun _ => et_n (et_t (ed_chain (K := K) (b := b) (g := fun i j => decide (i ≤ j)) (g' := fun i j => decide (i ≤ j)) (ed_int (i := 1)) (ed_len (ed_var (i := 0) rfl h1) (.inr (.inr hs)) fun y e => by cases e) (ed_var (i := 1) rfl h2)))
    refine SR.fin ((sr_if tl (fun _ => sr_ret ed_bl) fun hc => sr_ret (ed_andB (k := unlikeS (strsOf (ds.map fst))) (ed_allT (g := headedD) kn (ed_var rfl h1) hlen fun e v' H3 he x3 hv => ed_call (kn.up x3) (ea_cons (ed_var rfl hv) ea_nil) (by exact ⟨rfl, fun e' h' => by cases h'; exact okx e he⟩)) fun ha => ?_)).to ?_) q
    · have hh : ∀ e ∈ ds, ∃ a c z, e = .tuple [a, c, z] ∧ nameD a = true ∧ namesD c = true := fun e he => headed_fst (List.all_eq_true.mp ha e he)
      have hst : (ds.map fst).all (isD "str") = true := List.all_eq_true.mpr fun x hx => by
        obtain ⟨e, he, rfl⟩ := List.mem_map.mp hx
        obtain ⟨a, c, z, rfl, h4, _⟩ := hh e he
        exact nameD_str h4
      have e1 := map_strsOf hst
      have lc := ed_lcT1 (K := K) (b := b) (te := tOp (rIxT K) (tVar 2) (tC (.int 0))) (k := 2) (f := fst) kn (ed_var (σ := start ["thing", "most", "one"] [v, v2]) (i := 0) rfl h1) (Nat.lt_of_le_of_lt hlen (by decide)) (fun e v' H3 he x3 hv => by
        obtain ⟨a, c, z, rfl, _, _⟩ := hh e he
        exact ed_ixT (ed_var rfl hv) ed_int (atI0 a [c, z])) (fun e he => by
        obtain ⟨a, c, z, rfl, h4, _⟩ := hh e he
        obtain ⟨x, rfl⟩ := isD_str (nameD_str h4)
        rfl)
      refine (ed_call (K := K) (f := F1 unlikeD) kn (ea_cons lc ea_nil) ?_).to ?_
      · refine ⟨rfl, fun e' h' => ?_⟩
        cases h'
        refine ⟨strsOf (ds.map fst), Nat.le_trans strsOf_len (by rw [List.length_map]; exact hlen), .inl (by rw [e1])⟩
      · rfl
    · show _ = PyData.bool ((decide (1 ≤ ds.length) && decide ((ds.length : Int) ≤ m)) && (ds.all headedD && unlikeS (strsOf (ds.map fst))))
      have e1 : decide ((1 : Int) ≤ (lenD (.tuple ds) : Nat)) = decide (1 ≤ ds.length) := by
        show decide ((1 : Int) ≤ (ds.length : Nat)) = _
        by_cases h : 1 ≤ ds.length
        · rw [decide_eq_true h, decide_eq_true (by omega)]
        · rw [decide_eq_false h, decide_eq_false (by omega)]
      rw [e1]
      show (if (!(decide (1 ≤ ds.length) && decide ((ds.length : Int) ≤ m))) = true then _ else _) = _
      cases (decide (1 ≤ ds.length) && decide ((ds.length : Int) ≤ m)) <;> rfl
end
end Wr

set_option Elab.async false
set_option linter.all false
set_option maxRecDepth 100000
set_option maxHeartbeats 4000000
namespace Wr
open PySem PySem.Spec PyProof.Rows L2 Evl
/-- the text's written tuples -/
structure Words (K : PySem.W.Frag) (mg : Str → Option Value) (aN aR aL : Addr) : Prop where
  mN : mg "NAME_WORDS" = some (.ref aN)
  mR : mg "ROW_WORDS" = some (.ref aR)
  mL : mg "LONE_WORDS" = some (.ref aL)
  kN : ∀ H, SqT K H aN (nameW.map V.str) ∧ TN K H aN
  kR : ∀ H, SqT K H aR (rowW.map V.str) ∧ TN K H aR
  kL : ∀ H, SqT K H aL (loneW.map V.str) ∧ TN K H aL
def rowF (ds : List PyData) : PyData := match ds with
  | [d, i, m, .list cs] => .bool (rowD d (intOf i) (intOf m) (strsOf cs))
  | _ => .none
def RowPre (ds : List PyData) : Prop := ds.length = 4 ∧ ∀ d i m c, ds = [d, i, m, c] → okD 30 d = true ∧ (∃ k, i = .int k) ∧ (∃ k, m = .int k) ∧ ∃ xs : List Str, xs.all PyData.strOk = true ∧ c = .list (xs.map .str)
theorem rowD_two (a c : PyData) (i m : Int) (xs : List Str) : rowD (.tuple [a, c]) i m xs = (if PyData.eqv a (.str "put") = true then worthD c
    else if inD a (nameW.map .str) = true then nameD c
    else if PyData.eqv a (.str "call") = true then inD c (xs.map .str)
    else inD a (rowW.map .str) && (indexD c m && !(PyData.eqv a (.str "try") && PyData.eqv c (.int (i + 1))))) := rfl
theorem strOk_words : (loneW ++ nameW ++ rowW).all PyData.strOk = true := by decide +kernel
theorem sh_lone : SeqAt.shaped (.tuple (loneW.map .str)) = true := (sh_strs (by decide +kernel)).1
theorem sh_nameW : SeqAt.shaped (.tuple (nameW.map .str)) = true := (sh_strs (by decide +kernel)).1
theorem sh_rowW : SeqAt.shaped (.tuple (rowW.map .str)) = true := (sh_strs (by decide +kernel)).1
theorem sh_put : SeqAt.shaped (.str "put") = true := sh_str (by decide +kernel)
theorem sh_call : SeqAt.shaped (.str "call") = true := sh_str (by decide +kernel)
theorem sh_try : SeqAt.shaped (.str "try") = true := sh_str (by decide +kernel)
section
variable {P : Program} {w : World} {K : PySem.W.Frag} {mg : Str → Option Value} {base : Heap} {f g g2 g3 g4 g5 aN aR aL : Addr} {fd gd gd2 gd3 gd4 gd5 : FuncData}
theorem ed_words {b : List Addr} {σ : L2.St} {H : Hp} {a : Addr} {xs : List Str} (h : ∀ H, SqT K H a (xs.map V.str) ∧ TN K H a) : ED K b (tC (.ref a)) σ H (.tuple (xs.map .str)) := ed_c (.tup (h _).1 (h _).2 (strs_dps xs))
theorem ok_is_row (D : Def K mg "is_row" s_is_row ["thing", "at", "many", "called"] f fd) (D1 : Def K mg "is_worth" s_is_worth ["thing"] g gd) (G1 : FnOk P w K mg base CX0 2 g gd ["thing"] (spP K (fun ds => ds.length = 1) (F1 worthD)))
    (D2 : Def K mg "is_name" s_is_name ["thing"] g2 gd2) (G2 : FnOk P w K mg base CX0 1 g2 gd2 ["thing"] (spP K (fun ds => ds.length = 1 ∧ ∀ d, ds = [d] → okD 30 d = true) (F1 nameD)))
    (D3 : Def K mg "is_index" s_is_index ["thing", "many"] g3 gd3) (G3 : FnOk P w K mg base CX0 2 g3 gd3 ["thing", "many"] (spP K (fun ds => ds.length = 2 ∧ ∀ d n, ds = [d, n] → ∃ i, n = .int i) (F2 fun d n => indexD d (intOf n)))) (B : Blt mg) (W : Words K mg aN aR aL) :
    FnOk P w K mg base CX0 3 f fd ["thing", "at", "many", "called"] (spP K RowPre rowF) := by
  refine D.F.ok sc_is_row (fun vs H Q E h => spP_len (fun _ h => h.1) h) (fun cdv A outer s H vs Q E hr h => ?_)
  obtain ⟨b, ds, kn, hd, ⟨hp, hp2⟩, q⟩ := h
  obtain ⟨v, v2, v3, v4, d, d2, d3, d4, rfl, rfl, h1, h2, h3, h4⟩ := four_of hd hp
  obtain ⟨hok, ⟨i, rfl⟩, ⟨m, rfl⟩, xs, hxs, rfl⟩ := hp2 d d2 d3 d4 rfl
  refine ⟨_, pss_cons (ps_if (pt_not (pt_val (pe_callB call_isi rfl B.isi bb_isinstance (pa_cons (pv 0) (pa_cons (pe_tyN rfl B.tuple bt_tuple) pa_nil))))) (pss_one (ps_ret pe_bl)) pss_nil)
    (pss_cons (ps_if (pt_cmpR (op_eqD (hu64 hr)) (pe_callB call_lenD1 rfl B.len bb_len (pa_cons (pv 0) pa_nil)) pe_int (nomark _)) (pss_one (ps_ret (pe_cmpR (op_inT (hu65 hr)) (pe_ix ix_tup (pv 0) pe_int (fun _ _ => rfl)) (pe_gR W.mL) rfl))) pss_nil)
    (pss_cons (ps_if (pt_cmpR (op_neD (hu64 hr)) (pe_callB call_lenD1 rfl B.len bb_len (pa_cons (pv 0) pa_nil)) pe_int (nomark _)) (pss_one (ps_ret pe_bl)) pss_nil)
    (pss_cons (ps_asg (pv 0) (pg_tup rfl (pgs_cons (pg_name (i := 4) sc_is_row.nd rfl (Or.inl rfl)) (pgs_cons (pg_name (i := 5) sc_is_row.nd rfl (Or.inl rfl)) pgs_nil))))
    (pss_cons (ps_if (pt_cmpR (op_eqD (hu64 hr)) (pv 4) pe_str (nomark _)) (pss_one (ps_ret (pe_cd D1 G1 hr (pa_cons (pv 5) pa_nil)))) pss_nil)
    (pss_cons (ps_if (pt_cmpR (op_inT (hu65 hr)) (pv 4) (pe_gR W.mN) rfl) (pss_one (ps_ret (pe_cd D2 G2 (hr.mono (by decide)) (pa_cons (pv 5) pa_nil)))) pss_nil)
    (pss_cons (ps_if (pt_cmpR (op_eqD (hu64 hr)) (pv 4) pe_str (nomark _)) (pss_one (ps_ret (pe_cmpR (op_inD (hu65 hr)) (pv 5) (pv 3) rfl))) pss_nil)
    (pss_one (ps_ret (pe_and (pe_cmpR (op_inT (hu65 hr)) (pv 4) (pe_gR W.mR) rfl) (pe_and (pe_cd D3 G3 hr (pa_cons (pv 5) (pa_cons (pv 2) pa_nil)))
      (pe_one (pe_not (pe_and (pe_cmpR (op_eqD (hu64 hr)) (pv 4) pe_str (nomark _)) (pe_one (pe_cmpR (op_eqD (hu64 hr)) (pv 5) (pe_op op_add (pv 1) pe_int) (nomark _)))))))))))))))), ?_⟩
  have t1 := et_n (et_b (ed_isi (K := K) (b := b) (σ := start ["thing", "at", "many", "called", "word", "told"] [v, v2, v3, v4]) (H := H) (T := "tuple") (.inr (.inr (.inr (.inl rfl)))) (ed_var (i := 0) rfl h1)))
  cases hs : isD "tuple" d with
  | false =>
    rw [hs] at t1
    refine SR.fin ((sr_if (e := .none) t1 (fun _ => sr_ret ed_bl) fun h => nomatch h).to ?_) q
    have : rowD d i m (strsOf (xs.map .str)) = false := by
      cases d <;> first | rfl | (simp [isD, dTy, tyIs] at hs)
    show PyData.bool false = .bool (rowD d i m (strsOf (xs.map .str)))
    rw [this]
  | true =>
    obtain ⟨ds, rfl⟩ := isD_tuple hs
    rw [hs] at t1
    have okx : ∀ e ∈ ds, okD 30 e = true := fun e he => ok_up (ok_items (n := 29) hok e he) (by omega)
    have tl := ed_len (K := K) (b := b) (σ := start ["thing", "at", "many", "called", "word", "told"] [v, v2, v3, v4]) (ed_var (i := 0) rfl h1) (.inr (.inr hs)) fun y e => by cases e
    have t2 := et_t (ed_eq tl (ed_int (i := 1)) (sh_int _) (sh_int _))
    have t3 := et_t (ed_ne tl (ed_int (i := 2)) (sh_int _) (sh_int _))
    rw [eqv_int] at t2 t3
    by_cases hl1 : ds.length = 1
    · obtain ⟨a, rfl⟩ : ∃ a, ds = [a] := by
        match ds, hl1 with
        | [a], _ => exact ⟨a, rfl⟩
      refine SR.fin (((sr_if (d := .none) t1 (fun h => nomatch h) fun _ => sr_if (e := .none) t2 (fun _ => sr_ret (ed_inT (ed_ixT (ed_var rfl h1) ed_int (atI0 a [])) (ed_words W.kL) (ok_shaped (okx a (by simp))) sh_lone)) fun h => nomatch h)).to ?_) q
      rfl
    · have n1 : (((lenD (.tuple ds) : Nat) : Int) == 1) = false := beq_eq_false_iff_ne.mpr (by show ¬ ((ds.length : Nat) : Int) = 1; omega)
      rw [n1] at t2
      by_cases hl2 : ds.length = 2
      · obtain ⟨a, c, rfl⟩ : ∃ a c, ds = [a, c] := by
          match ds, hl2 with
          | [a, c], _ => exact ⟨a, c, rfl⟩
        have sa := ok_shaped (okx a (by simp))
        have sc := ok_shaped (okx c (by simp))
        refine SR.fin (((sr_if (d := .none) t1 (fun h => nomatch h) fun _ => sr_if (d := .none) t2 (fun h => nomatch h) fun _ => sr_if (d := .none) t3 (fun h => nomatch h) fun _ => sr_unpack2 (ed_var rfl h1) fun v5 v6 H' x' p1 p2 =>
          sr_if (et_t (ed_eq (ed_var rfl p1) ed_str sa sh_put)) (fun _ => sr_ret (ed_call (kn.up x') (ea_cons (ed_var rfl p2) ea_nil) (by rfl)))
          fun _ => sr_if (et_t (ed_inT (ed_var rfl p1) (ed_words W.kN) sa sh_nameW)) (fun _ => sr_ret (ed_call (kn.up x') (ea_cons (ed_var rfl p2) ea_nil) (by exact ⟨rfl, fun e' h' => by cases h'; exact okx c (by simp)⟩)))
          fun _ => sr_if (et_t (ed_eq (ed_var rfl p1) ed_str sa sh_call)) (fun _ => sr_ret (ed_inL (ed_var rfl p2) (ed_var rfl (Dq.up h4 x')) sc (sh_strs hxs).2))
          fun _ => sr_ret (ed_andB (ed_inT (ed_var rfl p1) (ed_words W.kR) sa sh_rowW) fun _ => ed_andB (ed_call (kn.up x') (ea_cons (ed_var rfl p2) (ea_cons (ed_var rfl (Dq.up h3 x')) ea_nil)) (by exact ⟨rfl, fun d n h' => by cases h'; exact ⟨m, rfl⟩⟩))
            fun _ => ed_not (ed_andB (ed_eq (ed_var rfl p1) ed_str sa sh_try) fun _ => ed_eq (ed_var rfl p2) (ed_add (ed_var rfl (Dq.up h2 x')) ed_int) sc (sh_int _))))).to ?_) q
        show _ = PyData.bool (rowD (.tuple [a, c]) i m (strsOf (xs.map .str)))
        rw [strsOf_map, rowD_two]
        cases PyData.eqv a (.str "put")
        · cases inD a (nameW.map .str)
          · cases PyData.eqv a (.str "call") <;> rfl
          · rfl
        · rfl
      · have n2 : (((lenD (.tuple ds) : Nat) : Int) == 2) = false := beq_eq_false_iff_ne.mpr (by show ¬ ((ds.length : Nat) : Int) = 2; omega)
        rw [n2] at t3
        refine SR.fin (((sr_if (d := .none) t1 (fun h => nomatch h) fun _ => sr_if (d := .none) t2 (fun h => nomatch h) fun _ => sr_if (e := .none) t3 (fun _ => sr_ret ed_bl) fun h => nomatch h)).to ?_) q
        have : rowD (.tuple ds) i m (strsOf (xs.map .str)) = false := by
          match ds, hl1, hl2 with
          | [], _, _ => rfl
          | [_], h, _ => exact absurd rfl h
          | [_, _], _, h => exact absurd rfl h
          | _ :: _ :: _ :: _, _, _ => rfl
        show PyData.bool false = .bool (rowD _ i m (strsOf (xs.map .str)))
        rw [this]
def RowsPre (ds : List PyData) : Prop := ds.length = 2 ∧ ∀ d c, ds = [d, c] → okD 30 d = true ∧ ∃ xs : List Str, xs.all PyData.strOk = true ∧ c = .list (xs.map .str)
def rowsF (ds : List PyData) : PyData := match ds with
  | [d, .list cs] => .bool (rowsD d (strsOf cs))
  | _ => .none
theorem ok_are_rows (D : Def K mg "are_rows" s_are_rows ["thing", "called"] f fd) (D1 : Def K mg "is_row" s_is_row ["thing", "at", "many", "called"] g gd) (G1 : FnOk P w K mg base CX0 3 g gd ["thing", "at", "many", "called"] (spP K RowPre rowF)) (B : Blt mg) {t : Tok} (mM : mg "MOST_PART_ROWS" = some (.int 60 t)) :
    FnOk P w K mg base CX0 4 f fd ["thing", "called"] (spP K RowsPre rowsF) := by
  refine D.F.ok sc_are_rows (fun vs H Q E h => spP_len (fun _ h => h.1) h) (fun cdv A outer s H vs Q E hr h => ?_)
  obtain ⟨b, ds, kn, hd, ⟨hp, hp2⟩, q⟩ := h
  obtain ⟨v, v2, d, d2, rfl, rfl, h1, h2⟩ := two_of hd hp
  obtain ⟨hok, xs, hxs, rfl⟩ := hp2 d d2 rfl
  refine ⟨_, pss_cons (ps_if (PW.pt (pw_or (pt_not (pt_val (pe_callB call_isi rfl B.isi bb_isinstance (pa_cons (pv 0) (pa_cons (pe_tyN rfl B.tuple bt_tuple) pa_nil)))))
      (pw_or1 (pt_not (pt_chain op_le op_le pe_int (pe_callB call_lenD1 rfl B.len bb_len (pa_cons (pv 0) pa_nil)) (pe_gI mM)))))) (pss_one (ps_ret pe_bl)) pss_nil)
    (pss_one (ps_ret (pe_callB (cr_all rfl) rfl B.all bb_all (pa_cons
      (pe_lc (own := [("at", 2), ("row", 3)]) (g := gTup K 2 (gCons (gName 2) (gCons (gName 3) gNil))) (tt := tYes) rfl sc_are_rows.nd (pi_enumT rfl B.enum (pa_cons (pv 0) pa_nil)) (blkOk_by (N := ["thing", "called", "at", "row"]) (sc := defScope s_are_rows) (by decide +kernel))
        (fun _ _ _ _ _ => pg_tup rfl (pgs_cons (pg_name (i := 2) sc_are_rows.nd rfl (Or.inl rfl)) (pgs_cons (pg_name (i := 3) sc_are_rows.nd rfl (Or.inl rfl)) pgs_nil))) (fun _ _ _ _ _ => pts_nil)
        (fun _ _ _ _ _ => pe_cd D1 G1 hr (pa_cons (pv 3) (pa_cons (pv 2) (pa_cons (pe_callB (r := rLen K) call_lenD1 rfl B.len bb_len (pa_cons (pv 0) pa_nil)) (pa_cons (pv 1) pa_nil)))))) pa_nil)))), ?_⟩
  have t1 := et_n (et_b (ed_isi (K := K) (b := b) (σ := start ["thing", "called", "at", "row"] [v, v2]) (H := H) (T := "tuple") (.inr (.inr (.inr (.inl rfl)))) (ed_var (i := 0) rfl h1)))
  cases hs : isD "tuple" d with
  | false =>
    rw [hs] at t1
    refine SR.fin ((sr_if (e := .none) (et_or (b := false) t1 fun h => nomatch h) (fun _ => sr_ret ed_bl) fun h => nomatch h).to ?_) q
    have : rowsD d (strsOf (xs.map .str)) = false := by
      cases d <;> first | rfl | (simp [isD, dTy, tyIs] at hs)
    show PyData.bool false = .bool (rowsD d (strsOf (xs.map .str)))
    rw [this]
  | true =>
    obtain ⟨ds, rfl⟩ := isD_tuple hs
    rw [hs] at t1
    have hlen := ok_len hok
    have okx : ∀ e ∈ ds, okD 30 e = true := fun e he => ok_up (ok_items (n := 29) hok e he) (by omega)
    have tl := et_or t1 fun _ => et_n (et_t (ed_chain (K := K) (b := b) (g := fun i j => decide (i ≤ j)) (g' := fun i j => decide (i ≤ j)) (ed_int (i := 1)) (ed_len (ed_var (i := 0) rfl h1) (.inr (.inr hs)) fun y e => by cases e) (ed_c (v := .int 60) (.int 60))))
    have lc := ed_lcE (K := K) (b := b) (te := tCall (spP K RowPre rowF) [] E0 (tCons (tVar 3) (tCons (tVar 2) (tCons (tCB (rLen K) (tCons (tVar 0) tNil)) (tCons (tVar 1) tNil))))) (k1 := 2) (k2 := 3) (f := fun i d => .bool (rowD d i ds.length xs)) kn (ed_var (σ := start ["thing", "called", "at", "row"] [v, v2]) (i := 0) rfl h1) (Nat.lt_of_le_of_lt hlen (by decide)) (fun _ _ => rfl)
      (fun i e v' H3 he x3 hv => (ed_call (kn.up x3) (ea_cons (ed_var rfl hv) (ea_cons (ed_var (d := .int (i : Nat)) rfl (.int _)) (ea_cons (ed_len (ed_var rfl (Dq.up h1 x3)) (.inr (.inr hs)) fun y e => by cases e) (ea_cons (ed_var rfl (Dq.up h2 x3)) ea_nil))))
        (by exact ⟨rfl, fun d i m c h' => by cases h'; exact ⟨okx e (List.mem_of_getElem? he), ⟨_, rfl⟩, ⟨_, rfl⟩, xs, hxs, rfl⟩⟩)).to (by
          show PyData.bool (rowD e i ds.length (strsOf (xs.map .str))) = _
          rw [strsOf_map])) (fun _ _ _ => rfl)
    have e0 : ((List.range ds.length).map fun i => PyData.bool (rowD (ds.getD i .none) i ds.length xs)) = ((List.range ds.length).map fun i => rowD (ds.getD i .none) i ds.length xs).map PyData.bool := by
      rw [List.map_map]
      rfl
    refine SR.fin ((sr_if tl (fun _ => sr_ret ed_bl) fun hc => sr_ret (ed_all (lc.to (by rw [e0])))).to ?_) q
    show _ = PyData.bool (rowsD (.tuple ds) (strsOf (xs.map .str)))
    rw [strsOf_map, all_map]
    unfold rowsD
    have e1 : decide ((1 : Int) ≤ (lenD (.tuple ds) : Nat)) = decide (1 ≤ ds.length) := by
      show decide ((1 : Int) ≤ (ds.length : Nat)) = _
      by_cases h : 1 ≤ ds.length
      · rw [decide_eq_true h, decide_eq_true (by omega)]
      · rw [decide_eq_false h, decide_eq_false (by omega)]
    have e2 : decide (((lenD (.tuple ds) : Nat) : Int) ≤ 60) = decide (ds.length ≤ 60) := by
      show decide (((ds.length : Nat) : Int) ≤ 60) = _
      by_cases h : ds.length ≤ 60
      · rw [decide_eq_true h, decide_eq_true (by omega)]
      · rw [decide_eq_false h, decide_eq_false (by omega)]
    rw [e1, e2]
    show (if (!(decide (1 ≤ ds.length) && decide (ds.length ≤ 60))) = true then _ else _) = PyData.bool ((decide (1 ≤ ds.length) && decide (ds.length ≤ 60)) && _)
    cases (decide (1 ≤ ds.length) && decide (ds.length ≤ 60)) <;> rfl
theorem name_strOk {x : Str} (h : nameS x = true) : PyData.strOk x = true := by
  unfold nameS at h
  rw [Bool.and_eq_true, Bool.and_eq_true] at h
  have h2 : x.cps.all (· < 128) = true := h.2.1
  show x.cps.all (· < 0x110000) = true
  rw [Array.all_eq_true] at h2 ⊢
  intro i hi
  have := of_decide_eq_true (h2 i hi)
  exact decide_eq_true (by omega)
def ProgPre (ds : List PyData) : Prop := ds.length = 1 ∧ ∀ d, ds = [d] → okD 30 d = true
theorem ok_is_program (D : Def K mg "is_program" s_is_program ["thing"] f fd) (D1 : Def K mg "are_headed" s_are_headed ["thing", "most"] g gd) (G1 : FnOk P w K mg base CX0 4 g gd ["thing", "most"] (spP K (fun ds => ds.length = 2 ∧ ∀ d n, ds = [d, n] → okD 30 d = true ∧ ∃ i, n = .int i) (F2 fun d n => headedAll d (intOf n))))
    (D2 : Def K mg "are_rows" s_are_rows ["thing", "called"] g2 gd2) (G2 : FnOk P w K mg base CX0 4 g2 gd2 ["thing", "called"] (spP K RowsPre rowsF)) (B : Blt mg) {t : Tok} (mP : mg "MOST_PARTS" = some (.int 8 t)) :
    FnOk P w K mg base CX0 5 f fd ["thing"] (spP K ProgPre (F1 progD)) := by
  refine D.F.ok sc_is_program (fun vs H Q E h => spP_len (fun _ h => h.1) h) (fun cdv A outer s H vs Q E hr h => ?_)
  obtain ⟨b, ds, kn, hd, ⟨hp, hok⟩, q⟩ := h
  obtain ⟨v, d, rfl, rfl, h1⟩ := one_of hd hp
  have hok := hok d rfl
  refine ⟨_, pss_cons (ps_if (pt_not (pt_val (pe_cd D1 G1 hr (pa_cons (pv 0) (pa_cons (pe_gI mP) pa_nil))))) (pss_one (ps_ret pe_bl)) pss_nil)
    (pss_cons (ps_set (i := 1) sc_is_program.nd rfl (Or.inr rfl)
      (pe_lc (own := [("part", 2)]) (g := gName 2) (tt := tYes) rfl sc_is_program.nd (pi_tup (pv 0)) (blkOk_by (N := ["thing", "called", "part"]) (sc := defScope s_is_program) (by decide +kernel)) (fun _ _ _ _ _ => pg_name (i := 2) sc_is_program.nd rfl (Or.inl rfl)) (fun _ _ _ _ _ => pts_nil)
        (fun _ _ _ _ _ => pe_ix (r := rIxT K) ix_tup (pv 2) pe_int (fun _ _ => rfl))))
    (pss_one (ps_ret (pe_callB (cr_all rfl) rfl B.all bb_all (pa_cons
      (pe_lc (own := [("part", 2)]) (g := gName 2) (tt := tYes) rfl sc_is_program.nd (pi_tup (pv 0)) (blkOk_by (N := ["thing", "called", "part"]) (sc := defScope s_is_program) (by decide +kernel)) (fun _ _ _ _ _ => pg_name (i := 2) sc_is_program.nd rfl (Or.inl rfl)) (fun _ _ _ _ _ => pts_nil)
        (fun _ _ _ _ _ => pe_cd D2 G2 hr (pa_cons (pe_ix (r := rIxT K) ix_tup (pv 2) pe_int (fun _ _ => rfl)) (pa_cons (pv 1) pa_nil)))) pa_nil))))), ?_⟩
  have t1 := et_n (et_b ((ed_call (K := K) (b := b) (E := E0) (σ := start ["thing", "called", "part"] [v]) (pre := fun ds => ds.length = 2 ∧ ∀ d n, ds = [d, n] → okD 30 d = true ∧ ∃ i, n = .int i) (f := F2 fun d n => headedAll d (intOf n)) kn (ea_cons (ed_var (i := 0) rfl h1) (ea_cons (ed_c (v := .int 8) (.int 8)) ea_nil)) ⟨rfl, fun d n h' => by cases h'; exact ⟨hok, _, rfl⟩⟩).to (show _ = PyData.bool (headedAll d 8) from rfl)))
  cases hs : headedAll d 8 with
  | false =>
    rw [hs] at t1
    refine SR.fin ((sr_if (e := .none) t1 (fun _ => sr_ret ed_bl) fun h => nomatch h).to ?_) q
    have : progD d = false := by
      cases d <;> first | rfl | (show (headedAll _ 8 && _) = false; rw [hs]; rfl)
    show PyData.bool false = .bool (progD d)
    rw [this]
  | true =>
    rw [hs] at t1
    obtain ⟨ds, rfl⟩ : ∃ ds, d = .tuple ds := by
      cases d <;> first | exact ⟨_, rfl⟩ | cases hs
    have hlen := ok_len hok
    have okx : ∀ e ∈ ds, okD 29 e = true := fun e he => ok_items (n := 29) hok e he
    have ha : ds.all headedD = true := by
      have : ((decide (1 ≤ ds.length) && decide ((ds.length : Int) ≤ 8)) && (ds.all headedD && unlikeS (strsOf (ds.map fst)))) = true := hs
      exact (Bool.and_eq_true_iff.mp (Bool.and_eq_true_iff.mp this).2).1
    have hh : ∀ e ∈ ds, ∃ a c z, e = .tuple [a, c, z] ∧ nameD a = true ∧ namesD c = true := fun e he => headed_fst (List.all_eq_true.mp ha e he)
    have hst : (ds.map fst).all (isD "str") = true := List.all_eq_true.mpr fun x hx => by
      obtain ⟨e, he, rfl⟩ := List.mem_map.mp hx
      obtain ⟨a, c, z, rfl, h4, _⟩ := hh e he
      exact nameD_str h4
    have e1 := map_strsOf hst
    have hso : (strsOf (ds.map fst)).all PyData.strOk = true := List.all_eq_true.mpr fun x hx => by
      have : PyData.str x ∈ ds.map fst := by
        rw [← e1]
        exact List.mem_map.mpr ⟨x, hx, rfl⟩
      obtain ⟨e, he, ex⟩ := List.mem_map.mp this
      obtain ⟨a, c, z, rfl, h4, _⟩ := hh e he
      have ea : a = .str x := ex
      subst ea
      exact name_strOk h4
    refine SR.fin ((sr_if (d := .none) t1 (fun h => nomatch h) fun _ => sr_set (e := .list (ds.map fst)) (ed_lcT1 (f := fst) kn (ed_var rfl h1) (Nat.lt_of_le_of_lt hlen (by decide)) (fun e v' H3 he x3 hv => by
        obtain ⟨a, c, z, rfl, _, _⟩ := hh e he
        exact ed_ixT (ed_var rfl hv) ed_int (atI0 a [c, z])) (fun e he => by
        obtain ⟨a, c, z, rfl, h4, _⟩ := hh e he
        obtain ⟨x, rfl⟩ := isD_str (nameD_str h4)
        rfl)) fun v2 H2 x2 hv2 => sr_ret (ed_allT (g := fun p => rowsD (thd p) (strsOf (ds.map fst))) (kn.up x2) (ed_var rfl (Dq.up h1 x2)) hlen fun e v' H3 he x3 hv => by
          obtain ⟨a, c, z, rfl, _, _⟩ := hh e he
          have okz : okD 28 z = true := ok_items (n := 28) (okx _ he) z (by simp)
          refine (ed_call ((kn.up x2).up x3) (ea_cons (ed_ixT (ed_var rfl hv) ed_int (atI2 a c z [])) (ea_cons (ed_var rfl (Dq.up hv2 x3)) ea_nil)) ?_).to ?_
          · refine ⟨rfl, fun d' c' h' => ?_⟩
            cases h'
            exact ⟨ok_up okz (by omega), strsOf (ds.map fst), hso, by rw [e1]⟩
          · rfl)).to ?_) q
    show PyData.bool _ = PyData.bool (headedAll (.tuple ds) 8 && _)
    rw [hs]
    rfl
end
end Wr

set_option Elab.async false
set_option linter.all false
set_option maxRecDepth 100000
set_option maxHeartbeats 4000000
namespace Wr
open PySem PySem.Spec PyProof.Rows L2 Evl
/-! ### a method of a tuple -/
def tBMT (K : PySem.W.Frag) (r : V → List V → Hp → VK → Prop) (to : TE) (t : TA) : TE := fun σ H Q => to σ H fun x H1 => (∃ a xs, x = .ref a ∧ SqT K H1 a xs ∧ TN K H1 a) ∧ t σ H1 fun xs H2 => r x xs H2 Q
theorem tn_is {X : Cx} {pins : List (Addr × Obj)} {σ : L2.St} {H : Hp} {s : Shared} {a : Addr} (I : Inv X pins σ H s) (h : TN X.K H a) : ∃ o, s.heap.get? a = some o ∧ o.dict = none := by
  rcases h with ⟨o, u, h1, h2⟩ | ⟨o, h1, _, h2⟩
  · exact ⟨o, (I.hok a _ h1).1, h2⟩
  · exact ⟨o, I.kIn a o h1, h2⟩
theorem pe_bmT {X : Cx} {o e : Expr} {es : List Expr} {to : TE} {t : TA} {name : Str} {id : String} {apos cpos : Pos} {r : V → List V → Hp → VK → Prop} (slot : Slot "tuple" name id) (hty : typeOf (.builtin id) = pure (.type "method_descriptor")) (hm : MtR X id r) (ho : PE X o to) (ha : PA X (e :: es) t)
    (hbase : attributeBase o name X.env (eval o X.env) = eval o X.env := by rfl)
    (hfew : ((backTo cpos (starEach (e :: es) X.env)).all (fun x => !x.1) && (backToKw cpos (keywordEach [] X.env)).all (fun x => x.1.isSome) && decide ((e :: es).length + ([] : List Keyword).length + (if ([] : List Keyword).isEmpty then 0 else 1) < 30)) = true := by rfl)
    (hline : (apos.endLine == cpos.line) = true := by rfl) (hs : starEach (e :: es) X.env = (false, eval e X.env) :: starEach es X.env := by rfl) (hplain : (backTo cpos (starEach es X.env)).any (·.1) = false := by rfl) :
    PE X (.Call (.Attribute o name apos) (e :: es) [] cpos) (tBMT X.K r to t) := by
  refine ⟨fun pins s σ H Q I h => ?_⟩
  refine wpAny_Call_method_late hbase hfew hline rfl (thn (ho.run pins s σ H _ I h) fun v s1 ⟨x, H1, I1, r1, ty, q1⟩ => ?_)
  obtain ⟨a, xs, rfl, hq, hn⟩ := ty
  cases r1
  obtain ⟨its, rv, p, _⟩ := I1.tuple hq
  refine ⟨"tuple", id, PySem.F.plainAttrs_tuple, slot, hty, p.typeIs, fun b e => ?_, ?_⟩
  · cases e
    exact tn_is I1 hn
  · have hA := ha.run cpos pins s1 σ H1 _ I1 q1
    rw [hs] at hA ⊢
    refine Calls.callWith_builtin (by show (false || (backTo cpos (starEach es X.env)).any (·.1)) = false; rw [hplain] <;> rfl) (Calls.evalArgs_plain ?_)
    exact thn hA fun us s2 ⟨vs, H2, I2, r2, q2⟩ => hm pins s2 σ H2 (.ref a) vs (.ref a) us Q I2 rfl r2 q2
/-! ### count -/
def countD (d : PyData) (ds : List PyData) : Nat := ds.countP fun z => PyData.eqv z d
def rCountT (K : PySem.W.Frag) : V → List V → Hp → VK → Prop := fun x xs H Q => ∃ y d ds, xs = [y] ∧ Dp K H x (.tuple ds) ∧ Dp K H y d ∧ SeqAt.shaped (.tuple ds) = true ∧ SeqAt.shaped d = true ∧ Q (.int (countD d ds : Nat)) H
def rCountL (K : PySem.W.Frag) : V → List V → Hp → VK → Prop := fun x xs H Q => ∃ y d ds, xs = [y] ∧ Dp K H x (.list ds) ∧ Dp K H y d ∧ SeqAt.shaped (.list ds) = true ∧ SeqAt.shaped d = true ∧ Q (.int (countD d ds : Nat)) H
theorem count_map {h : Heap} {its : List Value} {ds : List PyData} {d : PyData} (hm : its.map (SeqAt.readOf h) = ds) : its.countP (fun u => PyData.eqv (SeqAt.readOf h u) d) = countD d ds := by
  unfold countD
  rw [← hm, List.countP_map]
  rfl
theorem mt_countT {X : Cx} (hu : X.A.units + 65 < cLine) : MtR X "tuple.count" (rCountT X.K) := by
  intro pins s σ H x xs v us Q I rx rxs ⟨y, d, ds, e1, hl, hy, sl, sd, q⟩
  subst e1
  obtain ⟨uy, rfl, ry⟩ := vals1 rxs
  obtain ⟨bs, r1⟩ := Dp.reads I d y uy hy ry
  have hxs : PyData.canLayAll0 ds = true := by
    have := SeqAt.canLay_of_shaped sl
    simpa only [PyData.canLay0] using this
  have hroom : X.A.units + 1 + min (PyData.depthAll ds) d.depth < cLine := room_in_shaped sd hu
  cases hl with
  | tup hs ha =>
    cases rx
    obtain ⟨its, rv, ⟨⟨cls, dd, data, sls⟩, ho, hc, n, hd⟩, hlen⟩ := I.tuple hs
    simp only at hc hd
    subst hc hd
    obtain ⟨as, h4⟩ := Dp.readsAll I ds _ its ha rv
    have hm := SeqAt.readsAll_map ds its as hxs h4
    refine call_meets PySem.F.slot_tuple_count ⟨_, ho, rfl⟩ PySem.F.entry_tuple_count (PySem.F.args_tuple_count_2 _ _)
      (SeqAt.tuple_countAt _ its.toArray n dd sls uy fun u => PyData.eqv (SeqAt.readOf s.heap u) d) ⟨ho, SeqAt.items_eqAt (vs := its.toArray) h4 r1 hxs (SeqAt.canLay_of_shaped sd) hroom, ?_⟩
    refine ⟨.int (countD d ds : Nat), H, I.tok _, ⟨s.toks, ?_⟩, q⟩
    rw [List.toList_toArray, count_map hm]
theorem mt_countL {X : Cx} (hu : X.A.units + 65 < cLine) : MtR X "list.count" (rCountL X.K) := by
  intro pins s σ H x xs v us Q I rx rxs ⟨y, d, ds, e1, hl, hy, sl, sd, q⟩
  subst e1
  obtain ⟨uy, rfl, ry⟩ := vals1 rxs
  obtain ⟨bs, r1⟩ := Dp.reads I d y uy hy ry
  have hxs : PyData.canLayAll0 ds = true := by
    have := SeqAt.canLay_of_shaped sl
    simpa only [PyData.canLay0] using this
  have hroom : X.A.units + 1 + min (PyData.depthAll ds) d.depth < cLine := room_in_shaped sd hu
  cases hl with
  | lst hs ha =>
    cases rx
    obtain ⟨its, rv, ⟨⟨cls, dd, data, sls⟩, n, ho, hc, hdn, hd⟩, hlen⟩ := I.list hs
    simp only at hc hd
    subst hc hd
    obtain ⟨as, h4⟩ := Dp.readsAll I ds _ its ha rv
    have hm := SeqAt.readsAll_map ds its as hxs h4
    refine call_meets PySem.F.slot_list_count ⟨_, ho, rfl⟩ PySem.F.entry_list_count (PySem.F.args_list_count_2 _ _)
      (SeqAt.list_countAt _ its.toArray n dd sls uy fun u => PyData.eqv (SeqAt.readOf s.heap u) d) ⟨ho, SeqAt.items_eqAt (vs := its.toArray) h4 r1 hxs (SeqAt.canLay_of_shaped sd) hroom, ?_⟩
    refine ⟨.int (countD d ds : Nat), H, I.tok _, ⟨s.toks, ?_⟩, q⟩
    rw [List.toList_toArray, count_map hm]
/-! ### not in range -/
def rNinR : R2 := fun x y H Q => ∃ i a lo hi, x = V.int i ∧ y = V.ref a ∧ H a = some (.rng lo hi) ∧ Q (.bl (!decide (lo ≤ i ∧ i < hi))) H
theorem op_ninR {X : Cx} : OpR X (compareOp .NotIn) rNinR := by
  intro pins s σ H x y v u Q I rx ry ⟨i, a, lo, hi, e1, e2, ha, q⟩
  subst e1 e2
  obtain ⟨k, rfl⟩ := rx
  obtain rfl : u = Value.ref a := ry
  obtain ⟨t1, t2, t3, ho⟩ := I.hok a _ ha
  show wpAny _ _ (do return Value.bool (!(← contains (Value.ref a) (Value.int i k)))) _ _ s
  refine wpAny_bind (wpAny_contains_slot (T := "range") ⟨_, ho, rfl⟩ PySem.F.slot_range_contains (call_meets PySem.F.slot_range_contains ⟨_, ho, rfl⟩ PySem.F.entry_range_contains
    (PySem.F.args_range_contains_2 _ _) (q_contains a lo hi i t1 t2 t3 k) ⟨ho, wpAny_truthy_bool (wpAny_pure ⟨.bl _, H, I, rfl, ?_⟩)⟩))
  rw [place1]
  exact q
section
variable {K : PySem.W.Frag} {b : List Addr} {σ : L2.St} {H H' : Hp} {ta tb te : TE} {tt : TT} {ts : TS} {d a c e : PyData} {ds : List PyData}
theorem ed_countT (ha : ED K b ta σ H (.tuple ds)) (hb : ED K b tb σ H d) (sl : SeqAt.shaped (.tuple ds) = true) (sd : SeqAt.shaped d = true) : ED K b (tBMT K (rCountT K) ta (tCons tb tNil)) σ H (.int (countD d ds : Nat)) := fun H1 x1 Q q =>
  ha H1 x1 _ fun x H2 x2 hx => by
    have hx' := hx
    cases hx' with
    | tup h1 hn _ =>
      exact ⟨⟨_, _, rfl, ex_t hid_le h1, hn.ex hid_le⟩, hb H2 (x1.trans x2) _ fun y H3 x3 hy => ⟨y, d, ds, rfl, (Dq.up hx x3).dp, hy.dp, sl, sd, q _ H3 (x2.trans x3) (.int _)⟩⟩
theorem ed_countL (ha : ED K b ta σ H (.list ds)) (hb : ED K b tb σ H d) (sl : SeqAt.shaped (.list ds) = true) (sd : SeqAt.shaped d = true) : ED K b (tBM K "list" (rCountL K) ta (tCons tb tNil)) σ H (.int (countD d ds : Nat)) := fun H1 x1 Q q =>
  ha H1 x1 _ fun x H2 x2 hx => by
    have hx' := hx
    cases hx' with
    | lst h1 _ =>
      exact ⟨.inl ⟨rfl, _, ex_l hid_le h1⟩, hb H2 (x1.trans x2) _ fun y H3 x3 hy => ⟨y, d, ds, rfl, (Dq.up hx x3).dp, hy.dp, sl, sd, q _ H3 (x2.trans x3) (.int _)⟩⟩
theorem sr_unpack3 {i j k : Nat} (h : ED K b te σ H (.tuple [a, c, e])) (kk : ∀ v1 v2 v3 H', Ex H H' → Dq K b H' v1 a → Dq K b H' v2 c → Dq K b H' v3 e → SR K b ts (((σ.set i (some v1)).set j (some v2)).set k (some v3)) H' d) :
    SR K b (tSeq (tAsg te (gTup K 3 (gCons (gName i) (gCons (gName j) (gCons (gName k) gNil))))) ts) σ H d := fun H1 x1 D q =>
  h H1 x1 _ fun v H2 x2 hv => by
    cases hv with
    | tup h1 _ h2 =>
      cases h2 with
      | cons p1 p2 =>
        cases p2 with
        | cons p3 p4 =>
          cases p4 with
          | cons p5 p6 =>
            cases p6
            exact ⟨_, _, rfl, ex_t hid_le h1, rfl, _, _, rfl, _, _, rfl, _, _, rfl, rfl, kk _ _ _ H2 (x1.trans x2) p1 p3 p5 H2 (Ex.refl H2) D fun z H4 x4 hz => q _ H4 (x2.trans x4) hz⟩
/-- one sign in a written text -/
def rInSg : R2 := fun x y H Q => ∃ (c : Nat) (z : Str), x = .str ⟨#[c]⟩ ∧ y = .str z ∧ Q (.bl (decide (c ∈ z.cps.toList))) H
theorem op_inSg {X : Cx} : OpR X (compareOp .In) rInSg := op_in_sign
theorem ed_inSg {c : Nat} {z : Str} (ha : ED K b ta σ H (.str ⟨#[c]⟩)) (hb : ED K b tb σ H (.str z)) : ED K b (tOp rInSg ta tb) σ H (.bool (decide (c ∈ z.cps.toList))) :=
  ed_op ha hb fun H1 x y Q _ hx hy q => ⟨c, z, dq_str hx, dq_str hy, q _ H1 (Ex.refl H1) (.bl _)⟩
/-- sep.join(texts) -/
def rJoin (K : PySem.W.Frag) : V → List V → Hp → VK → Prop := fun x xs H Q => ∃ a p, ∃ ys : List Str, x = .str a ∧ xs = [.ref p] ∧ (SqL K H p (ys.map V.str) ∨ SqT K H p (ys.map V.str)) ∧ (ys.map (·.length)).sum + ys.length * a.length ≤ 16777216 ∧ Q (.str (Txt.join a ys)) H
theorem mt_joinD {X : Cx} : MtR X "str.join" (rJoin X.K) := mt_join
theorem ed_join {z : Str} {ys : List Str} (ha : ED K b ta σ H (.str z)) (hb : ED K b tb σ H (.list (ys.map PyData.str))) (hl : (ys.map (·.length)).sum + ys.length * z.length ≤ 16777216) : ED K b (tBM K "str" (rJoin K) ta (tCons tb tNil)) σ H (.str (Txt.join z ys)) := fun H1 x1 Q q =>
  ha H1 x1 _ fun x H2 x2 hx => by
    cases hx
    refine ⟨rfl, hb H2 (x1.trans x2) _ fun y H3 x3 hy => ?_⟩
    have hy' := hy.dd
    cases hy' with
    | lst h1 h2 =>
      rw [dps_strs h2] at h1
      exact ⟨z, _, ys, rfl, rfl, .inl h1, hl, q _ H3 (x2.trans x3) (.str _)⟩
/-- text.split(sep) -/
def rSplit : V → List V → Hp → VK → Prop := fun x xs H Q => ∃ a b, x = .str a ∧ xs = [.str b] ∧ (b.length == 0) = false ∧ a.length + 2 ≤ sizeLine ∧ rNewStrs (Txt.split a b) H Q
theorem mt_splitD {X : Cx} : MtR X "str.split" rSplit := mt_split
theorem ed_split {z y : Str} (kn : Kn b H) (ha : ED K b ta σ H (.str z)) (hb : ED K b tb σ H (.str y)) (hy : (y.length == 0) = false) (hl : z.length + 2 ≤ sizeLine) : ED K b (tBM K "str" rSplit ta (tCons tb tNil)) σ H (.list ((Txt.split z y).map PyData.str)) := fun H1 x1 Q q =>
  ha H1 x1 _ fun x H2 x2 hx => by
    cases hx
    refine ⟨rfl, hb H2 (x1.trans x2) _ fun v H3 x3 hv => ?_⟩
    cases hv
    exact ⟨z, y, rfl, rfl, hy, hl, fun p hp => q _ _ ((x2.trans x3).trans (Ex.new hp)) (.lst (.inl (.inl (hid_new ((kn.up ((x1.trans x2).trans x3)).new hp)))) (strs_dps _))⟩
/-- len(..) not in range(lo, hi) -/
theorem ed_ninR {i lo hi : Int} {tlo thi : TE} (ha : ED K b ta σ H (.int i)) (h1 : ED K b tlo σ H (.int lo)) (h2 : ED K b thi σ H (.int hi)) :
    ED K b (tOp rNinR ta (tCB (fun vs H Q => ∃ i j, vs = [V.int i, V.int j] ∧ ∀ p, H p = none → Q (.ref p) (upd H p (.rng i j))) (tCons tlo (tCons thi tNil)))) σ H (.bool (!decide (lo ≤ i ∧ i < hi))) := fun H1 x1 Q q =>
  ha H1 x1 _ fun x H2 x2 hx => h1 H2 (x1.trans x2) _ fun y H3 x3 hy => h2 H3 ((x1.trans x2).trans x3) _ fun z H4 x4 hz => ⟨lo, hi, by rw [dq_int hy, dq_int hz], fun p hp =>
    ⟨i, p, lo, hi, dq_int hx, rfl, upd_same, q _ _ (((x2.trans x3).trans x4).trans (Ex.new hp)) (.bl _)⟩⟩
end
end Wr

set_option Elab.async false
set_option linter.all false
set_option maxRecDepth 100000
set_option maxHeartbeats 4000000
namespace Wr
open PySem PySem.Spec PyProof.Rows L2 Evl
abbrev abc : Str := "abcdefghijklmnopqrstuvwxyz"
/-! ### what a name is, told twice -/
def azS (x : Str) : Bool := decide (1 ≤ x.length ∧ x.length < 9) && x.cps.toList.all fun c => decide (c ∈ abc.cps.toList)
theorem abc_mem (c : Nat) : c ∈ abc.cps.toList ↔ 97 ≤ c ∧ c ≤ 122 := by
  have e : abc.cps.toList = (List.range 26).map (· + 97) := by decide +kernel
  rw [e, List.mem_map]
  constructor
  · rintro ⟨a, ha, rfl⟩
    have := List.mem_range.mp ha
    omega
  · rintro ⟨h1, h2⟩
    exact ⟨c - 97, List.mem_range.mpr (by omega), by omega⟩
theorem uni_tab : ((List.range 128).all fun c => (Unicode.isAlpha c && !(Unicode.isUpper c || Unicode.isTitle c)) == (decide (97 ≤ c) && decide (c ≤ 122)) && ((!(decide (97 ≤ c) && decide (c ≤ 122))) || Unicode.isLower c)) = true := by decide +kernel
theorem uni_at {c : Nat} (h : c < 128) : (Unicode.isAlpha c && !(Unicode.isUpper c || Unicode.isTitle c)) = (decide (97 ≤ c) && decide (c ≤ 122)) ∧ ((97 ≤ c ∧ c ≤ 122) → Unicode.isLower c = true) := by
  have q := List.all_eq_true.mp uni_tab c (List.mem_range.mpr h)
  rw [Bool.and_eq_true] at q
  refine ⟨by simpa using q.1, fun h' => ?_⟩
  have q2 := q.2
  rw [decide_eq_true h'.1, decide_eq_true h'.2] at q2
  simpa using q2
theorem nameS_az (x : Str) : nameS x = azS x := by
  have key : nameS x = true ↔ azS x = true := by
    unfold nameS azS Txt.isascii Txt.isalpha Txt.islower
    simp only [Bool.and_eq_true, decide_eq_true_eq, Array.all_eq_true', List.all_eq_true, Bool.not_eq_true', Array.any_eq_false', Array.any_eq_true']
    constructor
    · rintro ⟨h8, ha, ⟨h0, hal⟩, ⟨c, hc, hl⟩, hn⟩
      have hlen : 0 < x.length := h0
      refine ⟨⟨by omega, by omega⟩, fun c hc => ?_⟩
      have hc' : c ∈ x.cps := by simpa using hc
      have h1 := (uni_at (ha c hc')).1
      have h2 := hal c hc'
      have h3 := hn c hc'
      have h3' : (Unicode.isUpper c || Unicode.isTitle c) = false := by simpa using h3
      rw [h2, h3'] at h1
      have h1' : (decide (97 ≤ c) && decide (c ≤ 122)) = true := h1.symm
      rw [Bool.and_eq_true] at h1'
      exact (abc_mem c).mpr ⟨of_decide_eq_true h1'.1, of_decide_eq_true h1'.2⟩
    · rintro ⟨⟨h1, h2⟩, hall⟩
      have az : ∀ c ∈ x.cps, 97 ≤ c ∧ c ≤ 122 := fun c hc => (abc_mem c).mp (hall c (by simpa using hc))
      have hs : 0 < x.cps.size := h1
      refine ⟨by omega, fun c hc => by have := az c hc; omega, ⟨hs, fun c hc => ?_⟩, ⟨x.cps[0], Array.getElem_mem hs, ?_⟩, fun c hc => ?_⟩
      · have h := (uni_at (c := c) (by have := az c hc; omega)).1
        rw [decide_eq_true (az c hc).1, decide_eq_true (az c hc).2] at h
        simp only [Bool.and_self, Bool.and_eq_true] at h
        exact h.1
      · have h := az _ (Array.getElem_mem hs)
        exact (uni_at (by omega)).2 h
      · have h := (uni_at (c := c) (by have := az c hc; omega)).1
        rw [decide_eq_true (az c hc).1, decide_eq_true (az c hc).2] at h
        simp only [Bool.and_self, Bool.and_eq_true] at h
        simpa using h.2
  cases h1 : nameS x <;> cases h2 : azS x
  · rfl
  · rw [h1, h2] at key; exact absurd (key.mpr rfl) (by decide)
  · rw [h1, h2] at key; exact absurd (key.mp rfl) (by decide)
  · rfl
end Wr

set_option Elab.async false
set_option linter.all false
set_option maxRecDepth 100000
set_option maxHeartbeats 4000000
namespace Wr
open PySem PySem.Spec PyProof.Rows L2 Evl
theorem fold_signs : ∀ (cs : List Nat) (acc : Array Nat), (cs.map fun c => (⟨#[c]⟩ : Str)).foldl (fun acc p => acc ++ (Str.ofString "").cps ++ p.cps) acc = acc ++ cs.toArray
  | [], acc => by simp
  | c :: cs, acc => by
    rw [List.map_cons, List.foldl_cons, fold_signs cs]
    have e : (Str.ofString "").cps = #[] := by decide +kernel
    rw [e]
    simp
theorem join_signs (cs : List Nat) : Txt.join "" (cs.map fun c => (⟨#[c]⟩ : Str)) = ⟨cs.toArray⟩ := by
  cases cs with
  | nil => decide +kernel
  | cons c r =>
    show (⟨(r.map fun c => (⟨#[c]⟩ : Str)).foldl (fun acc p => acc ++ (Str.ofString "").cps ++ p.cps) #[c]⟩ : Str) = _
    rw [fold_signs]
    congr 1
    simp
theorem len_signs (cs : List Nat) : ((cs.map fun c => (⟨#[c]⟩ : Str)).map (·.length)).sum = cs.length := by
  induction cs with
  | nil => rfl
  | cons c r ih =>
    rw [List.map_cons, List.map_cons, List.sum_cons, ih, List.length_cons]
    show 1 + r.length = r.length + 1
    omega
theorem strEq (x y : Str) : PyData.eqv (.str x) (.str y) = decide (x = y) := by
  simp only [PyData.eqv]
  rfl
theorem kept_eq (x : Str) (p : Nat → Bool) : decide (x = ⟨(x.cps.toList.filter p).toArray⟩) = x.cps.toList.all p := by
  by_cases h : x.cps.toList.all p = true
  · rw [h]
    apply decide_eq_true
    have e : x.cps.toList.filter p = x.cps.toList := List.filter_eq_self.mpr fun c hc => List.all_eq_true.mp h c hc
    rw [e]
  · have h' := Bool.eq_false_iff.mpr h
    rw [h']
    apply decide_eq_false
    intro e
    apply h
    have e2 : x.cps.toList = x.cps.toList.filter p := by
      have := congrArg (fun s : Str => s.cps.toList) e
      simpa using this
    rw [List.all_eq_true]
    intro c hc
    rw [e2] at hc
    exact (List.mem_filter.mp hc).2
section
variable {P : Program} {w : World} {K : PySem.W.Frag} {mg : Str → Option Value} {base : Heap} {f g g2 g3 g4 g5 : Addr} {fd gd gd2 gd3 gd4 gd5 : FuncData}
theorem bt_range : bootBuiltins "range" = some (.type "range") := by decide +kernel
end
end Wr

set_option Elab.async false
set_option linter.all false
set_option maxRecDepth 100000
set_option maxHeartbeats 4000000
namespace Wr
open PySem PySem.Spec PyProof.Rows L2 Evl
theorem inD_str (z : Str) (ws : List Str) : inD (.str z) (ws.map .str) = decide (z ∈ ws) := by
  unfold inD
  by_cases h : z ∈ ws
  · rw [decide_eq_true h]
    exact List.any_eq_true.mpr ⟨.str z, List.mem_map.mpr ⟨z, h, rfl⟩, by rw [strEq]; exact decide_eq_true rfl⟩
  · rw [decide_eq_false h]
    apply Bool.eq_false_iff.mpr
    intro q
    obtain ⟨y, hy, e⟩ := List.any_eq_true.mp q
    obtain ⟨x, hx, rfl⟩ := List.mem_map.mp hy
    rw [strEq] at e
    exact h (of_decide_eq_true e ▸ hx)
theorem eqv_nstr {d : PyData} (h : isD "str" d = false) (x : Str) : PyData.eqv d (.str x) = false := by
  cases d <;> first | (simp only [PyData.eqv]; done) | (simp [isD, dTy, tyIs] at h)
theorem eqv_strn {d : PyData} (h : isD "str" d = false) (x : Str) : PyData.eqv (.str x) d = false := by
  cases d <;> first | (simp only [PyData.eqv]; done) | (simp [isD, dTy, tyIs] at h)
theorem inD_nstr {d : PyData} (h : isD "str" d = false) (ws : List Str) : inD d (ws.map .str) = false := by
  unfold inD
  apply Bool.eq_false_iff.mpr
  intro q
  obtain ⟨y, hy, e⟩ := List.any_eq_true.mp q
  obtain ⟨x, hx, rfl⟩ := List.mem_map.mp hy
  rw [eqv_strn h] at e
  cases e
theorem whole_worth (c : PyData) : (wholeD c && worthD c) = worthD c := by
  cases c <;> first | rfl | (simp [wholeD, isD, dTy, tyIs, worthD])
theorem whole_index (c : PyData) (m : Int) (k : Bool) : (wholeD c && (indexD c m && k)) = (indexD c m && k) := by
  cases c <;> first | rfl | (simp [wholeD, isD, dTy, tyIs, indexD])
abbrev aloneT : Str := "add less times over same below twin swap away say back throw done lead turn"
theorem split_alone : Txt.split aloneT " " = loneW := by decide +kernel
theorem eqv_nil (ds : List PyData) : PyData.eqv (.tuple ds) (.tuple []) = ds.isEmpty := by
  cases ds <;> simp only [PyData.eqv, PyData.eqvAll, List.isEmpty]
theorem eqv_nilT (d : PyData) : PyData.eqv d (.tuple []) = (match d with | .tuple [] => true | _ => false) := by
  cases d with
  | tuple ds => rw [eqv_nil]; cases ds <;> rfl
  | _ => simp only [PyData.eqv]
theorem sh_nil : SeqAt.shaped (.tuple []) = true := (sh_strs (xs := []) rfl).1
def RowPre2 (ds : List PyData) : Prop := ds.length = 4 ∧ ∀ d i m c, ds = [d, i, m, c] → okD 30 d = true ∧ (∃ k, i = .int k) ∧ (∃ k, m = .int k) ∧ ∃ xs : List Str, xs.all nameS = true ∧ c = .list (xs.map .str)
theorem in_called {c : PyData} {xs : List Str} (hx : xs.all nameS = true) (h : inD c (xs.map .str) = true) : nameD c = true := by
  cases hs : isD "str" c with
  | false => rw [inD_nstr hs] at h; cases h
  | true =>
    obtain ⟨x, rfl⟩ := isD_str hs
    rw [inD_str] at h
    exact List.all_eq_true.mp hx x (of_decide_eq_true h)
def nameW5 : List Str := ["get", "set", "look", "change", "call"]
theorem nameW5_iff (z : Str) : z ∈ nameW5 ↔ z ∈ nameW ∨ z = "call" := by
  simp only [nameW5, nameW, List.mem_cons, List.not_mem_nil, or_false, or_assoc]
/-- the law's own reading of a row of two is the program's -/
theorem row_two (z : Str) (c : PyData) (i m : Int) (xs : List Str) (hx : xs.all nameS = true) :
    (if decide (z = "put") = true then PyData.bool (wholeD c && worthD c)
      else if decide (z ∈ rowW) = true then .bool (wholeD c && (indexD c m && !(decide (z = "try") && PyData.eqv c (.int (i + 1)))))
      else if ((!decide (z ∈ nameW5)) || !nameD c) = true then .bool false
      else .bool ((!decide (z = "call")) || inD c (xs.map .str))) = .bool (rowD (.tuple [.str z, c]) i m xs) := by
  rw [rowD_two, strEq, strEq, strEq, inD_str, inD_str, whole_worth, whole_index]
  by_cases h1 : z = "put"
  · subst h1
    rfl
  · rw [decide_eq_false h1]
    simp only [Bool.false_eq_true, if_false]
    by_cases h2 : z ∈ rowW
    · have h3 : z ∉ nameW := by
        rcases (show z = "go" ∨ z = "if" ∨ z = "try" by simpa [rowW] using h2) with rfl | rfl | rfl <;> decide +kernel
      have h4 : z ≠ "call" := by
        rcases (show z = "go" ∨ z = "if" ∨ z = "try" by simpa [rowW] using h2) with rfl | rfl | rfl <;> decide +kernel
      simp only [decide_eq_true h2, decide_eq_false h3, decide_eq_false h4, if_true, Bool.false_eq_true, if_false, Bool.true_and]
    · simp only [decide_eq_false h2, Bool.false_eq_true, if_false, Bool.false_and]
      by_cases h3 : z ∈ nameW
      · have h4 : z ≠ "call" := by
          rcases (show z = "get" ∨ z = "set" ∨ z = "look" ∨ z = "change" by simpa [nameW] using h3) with rfl | rfl | rfl | rfl <;> decide +kernel
        have h5 : z ∈ nameW5 := (nameW5_iff z).mpr (.inl h3)
        simp only [decide_eq_true h3, decide_eq_false h4, decide_eq_true h5, if_true, Bool.not_true, Bool.false_or, Bool.not_false, Bool.true_or]
        cases nameD c <;> rfl
      · by_cases h4 : z = "call"
        · have h5 : z ∈ nameW5 := (nameW5_iff z).mpr (.inr h4)
          simp only [decide_eq_false h3, decide_eq_true h4, decide_eq_true h5, if_true, Bool.not_true, Bool.false_or, Bool.false_eq_true, if_false]
          cases hn : nameD c with
          | true => rfl
          | false =>
            have : inD c (xs.map .str) = false := by
              cases hi : inD c (xs.map .str) with
              | false => rfl
              | true => rw [in_called hx hi] at hn; cases hn
            rw [this]
            rfl
        · have h5 : z ∉ nameW5 := fun h => by
            rcases (nameW5_iff z).mp h with h | h
            · exact h3 h
            · exact h4 h
          simp only [decide_eq_false h3, decide_eq_false h4, decide_eq_false h5, Bool.not_false, Bool.true_or, if_true, Bool.false_eq_true, if_false]
section
variable {P : Program} {w : World} {K : PySem.W.Frag} {mg : Str → Option Value} {base : Heap} {f g g2 g3 g4 g5 : Addr} {fd gd gd2 gd3 gd4 gd5 : FuncData}
end
end Wr

set_option Elab.async false
set_option linter.all false
set_option maxRecDepth 100000
set_option maxHeartbeats 4000000
namespace Wr
open PySem PySem.Spec PyProof.Rows L2 Evl
abbrev NP2 : List Str := ["_law_part", "_law_called", "_law_name", "_law_names_here", "_law_rows", "_law_many", "_law_some", "_law_one", "_law_at", "_law_row"]
abbrev NG2 : List Str := ["_law_thing", "_law_called", "_law_part", "_law_name"]
/-! ### no text twice, told by counts -/
theorem count_strs (x : Str) (xs : List Str) : countD (.str x) (xs.map .str) = xs.count x := by
  unfold countD
  rw [List.countP_map, List.count]
  refine congrArg (fun p => List.countP p xs) (funext fun y => ?_)
  show PyData.eqv (.str y) (.str x) = (y == x)
  rw [strEq]
  by_cases h : y = x
  · rw [decide_eq_true h, h, beq_self_eq_true]
  · rw [decide_eq_false h, beq_eq_false_iff_ne.mpr h]
theorem twice_unlike (xs : List Str) : (xs.filter fun x => decide ((1 : Int) < (xs.count x : Nat))).isEmpty = unlikeS xs := by
  unfold unlikeS
  by_cases h : xs.Nodup
  · rw [decide_eq_true ((uq_len_iff xs).mpr h)]
    have : xs.filter (fun x => decide ((1 : Int) < (xs.count x : Nat))) = [] := List.filter_eq_nil_iff.mpr fun x hx => by
      have := List.nodup_iff_count.mp h x
      intro q
      have := of_decide_eq_true q
      omega
    rw [this]
    rfl
  · rw [decide_eq_false fun e => h ((uq_len_iff xs).mp e)]
    cases hf : xs.filter (fun x => decide ((1 : Int) < (xs.count x : Nat))) with
    | cons a r => rfl
    | nil =>
      exfalso
      apply h
      rw [List.nodup_iff_count]
      intro x
      by_cases hx : x ∈ xs
      · have := List.filter_eq_nil_iff.mp hf x hx
        have q : ¬ (1 : Int) < (xs.count x : Nat) := fun q => this (decide_eq_true q)
        omega
      · rw [List.count_eq_zero_of_not_mem hx]
        exact Nat.zero_le _
theorem eqv_nilL (ds : List PyData) : PyData.eqv (.list ds) (.list []) = ds.isEmpty := by
  cases ds <;> simp only [PyData.eqv, PyData.eqvAll, List.isEmpty]
theorem sh_nilL : SeqAt.shaped (.list []) = true := (sh_strs (xs := []) rfl).2
def headed2D (d : PyData) : Bool := match d with
  | .tuple [a, _, _] => nameD a
  | _ => false
def partD (d : PyData) (called : List Str) : Bool := match d with
  | .tuple [_, c, e] => namesD c && rowsD e called
  | _ => false
def partF (ds : List PyData) : PyData := match ds with
  | [d, .list cs] => .bool (partD d (strsOf cs))
  | _ => .none
def PartPre (ds : List PyData) : Prop := ds.length = 2 ∧ ∀ d c, ds = [d, c] → okD 30 d = true ∧ (∃ a e f, d = .tuple [a, e, f]) ∧ ∃ xs : List Str, xs.all nameS = true ∧ c = .list (xs.map .str)
section
variable {P : Program} {w : World} {K : PySem.W.Frag} {mg : Str → Option Value} {base : Heap} {f g g2 g3 g4 g5 : Addr} {fd gd gd2 gd3 gd4 gd5 : FuncData}
end
end Wr

set_option Elab.async false
set_option linter.all false
set_option maxRecDepth 100000
set_option maxHeartbeats 4000000
namespace Wr
open PySem PySem.Spec PyProof.Rows L2 Evl
theorem headed2_of {d : PyData} (h : headed2D d = true) : ∃ a c e, d = .tuple [a, c, e] ∧ nameD a = true := by
  unfold headed2D at h
  split at h
  · rename_i a c e
    exact ⟨a, c, e, rfl, h⟩
  · cases h
theorem all_both {α : Type} (p q : α → Bool) : ∀ xs : List α, (xs.all p && xs.all q) = xs.all fun x => p x && q x
  | [] => rfl
  | x :: xs => by
    rw [List.all_cons, List.all_cons, List.all_cons, ← all_both p q xs]
    cases p x <;> cases q x <;> cases xs.all p <;> simp
theorem part_eq (p : PyData) (xs : List Str) : (headedD p && rowsD (thd p) xs) = (headed2D p && partD p xs) := by
  match p with
  | .none => rfl
  | .bool _ => rfl
  | .int _ => rfl
  | .str _ => rfl
  | .list _ => rfl
  | .dict _ => rfl
  | .tuple [] => rfl
  | .tuple [_] => rfl
  | .tuple [_, _] => rfl
  | .tuple [a, c, e] => exact Bool.and_assoc _ _ _
  | .tuple (_ :: _ :: _ :: _ :: _) => rfl
/-- both readings of a program come to the same -/
theorem prog_two (ds : List PyData) : progD (.tuple ds) = (decide (1 ≤ ds.length ∧ ds.length < 9) && (ds.all headed2D && (unlikeS (strsOf (ds.map fst)) && ds.all fun p => partD p (strsOf (ds.map fst))))) := by
  show (((decide (1 ≤ ds.length) && decide ((ds.length : Int) ≤ 8)) && (ds.all headedD && unlikeS (strsOf (ds.map fst)))) && ds.all fun p => rowsD (thd p) (strsOf (ds.map fst))) = _
  generalize strsOf (ds.map fst) = xs
  have e1 : (decide (1 ≤ ds.length) && decide ((ds.length : Int) ≤ 8)) = decide (1 ≤ ds.length ∧ ds.length < 9) := by
    by_cases h : 1 ≤ ds.length ∧ ds.length < 9
    · rw [decide_eq_true h, decide_eq_true h.1, decide_eq_true (by omega)]
      rfl
    · rw [decide_eq_false h]
      by_cases h1 : 1 ≤ ds.length
      · rw [decide_eq_true h1, decide_eq_false (by omega)]
        rfl
      · rw [decide_eq_false h1]
        rfl
  rw [e1]
  have e2 : (ds.all headedD && ds.all fun p => rowsD (thd p) xs) = (ds.all headed2D && ds.all fun p => partD p xs) := by
    rw [all_both, all_both]
    congr 1
    funext p
    exact part_eq p xs
  cases decide (1 ≤ ds.length ∧ ds.length < 9) with
  | false => rfl
  | true =>
    cases unlikeS xs with
    | false => simp
    | true =>
      simp only [Bool.true_and, Bool.and_true]
      exact e2
section
variable {P : Program} {w : World} {K : PySem.W.Frag} {mg : Str → Option Value} {base : Heap} {f g g2 g3 g4 g5 : Addr} {fd gd gd2 gd3 gd4 gd5 : FuncData}
end
end Wr

set_option Elab.async false
set_option linter.all false
set_option maxRecDepth 100000
set_option maxHeartbeats 4000000
namespace Wr
open PySem PySem.Spec PyProof.Rows L2 Evl
/-! ### a heap that grows but for the bag at a -/
def ExB (a : Addr) (H H' : Hp) : Prop := ∀ c o, c ≠ a → H c = some o → H' c = some o
theorem ExB.refl (a : Addr) (H : Hp) : ExB a H H := fun _ _ _ h => h
theorem ExB.trans {a : Addr} {H H1 H2 : Hp} (x : ExB a H H1) (y : ExB a H1 H2) : ExB a H H2 := fun c o n h => y c o n (x c o n h)
theorem exb {a : Addr} {H H1 : Hp} (x : Ex H H1) : ExB a H H1 := fun c o _ h => x c o h
theorem hid_exB {b : List Addr} {a : Addr} {H H' : Hp} (ha : a ∈ b) (e : ExB a H H') : Ex (hid b H) (hid b H') := fun c o h => by
  obtain ⟨h1, h2⟩ := hid_some h
  rw [hid_ne h1]
  exact e c o (fun z => h1 (z ▸ ha)) h2
theorem Dq.upB {K : PySem.W.Frag} {b : List Addr} {a : Addr} {H H' : Hp} {v : V} {d : PyData} (ha : a ∈ b) (h : Dq K b H v d) (e : ExB a H H') : Dq K b H' v d := dp_ex (hid_exB ha e) d v h
theorem DqAll.upB {K : PySem.W.Frag} {b : List Addr} {a : Addr} {H H' : Hp} {vs : List V} {ds : List PyData} (ha : a ∈ b) (h : DqAll K b H vs ds) (e : ExB a H H') : DqAll K b H' vs ds := dps_ex (hid_exB ha e) ds vs h
/-- the bag at a, from which n things may be taken -/
def Bag (a : Addr) (n : Nat) (H : Hp) : Prop := ∃ g x c : Int, H a = some (.lst [.int g, .int x, .int c]) ∧ 0 ≤ g ∧ 0 ≤ x ∧ x < 2000000000000000000 ∧ 0 ≤ c ∧ c + (n : Int) ≤ 1000000
theorem Bag.le {a : Addr} {n m : Nat} {H : Hp} (h : Bag a n H) (hm : m ≤ n) : Bag a m H := by
  obtain ⟨g, x, c, h1, h2, h3, h4, h5, h6⟩ := h
  exact ⟨g, x, c, h1, h2, h3, h4, h5, by omega⟩
theorem Bag.ex {a : Addr} {n : Nat} {H H' : Hp} (h : Bag a n H) (e : Ex H H') : Bag a n H' := by
  obtain ⟨g, x, c, h1, r⟩ := h
  exact ⟨g, x, c, e _ _ h1, r⟩
theorem Bag.there {a : Addr} {n : Nat} {H : Hp} (h : Bag a n H) : H a ≠ none := by
  obtain ⟨g, x, c, h1, _⟩ := h
  rw [h1]
  intro z
  cases z
theorem Bag.kn {a : Addr} {n : Nat} {H : Hp} (h : Bag a n H) : Kn [a] H := fun c hc => by
  rw [List.mem_singleton.mp hc]
  exact h.there
theorem ExB.kn {a : Addr} {n : Nat} {b : List Addr} {H H' : Hp} (k : Kn b H) (x : ExB a H H') (h : Bag a n H') : Kn b H' := fun c hc z => by
  by_cases e : c = a
  · subst e
    exact h.there z
  · cases q : H c with
    | none => exact k c hc q
    | some o =>
      rw [x c o e q] at z
      cases z
/-! ### what is evaluated while things are taken from the bag -/
section
variable (K : PySem.W.Frag) (b : List Addr) (a : Addr) (n m : Nat)
def EG (te : TE) (σ : L2.St) (H : Hp) (P : PyData → Prop) : Prop := ∀ H1, ExB a H H1 → Kn b H1 → Bag a n H1 → ∀ Q : VK, (∀ v d H2, ExB a H1 H2 → Bag a m H2 → Dq K b H2 v d → P d → Q v H2) → te σ H1 Q
def EGA (ta : TA) (σ : L2.St) (H : Hp) (P : List PyData → Prop) : Prop := ∀ H1, ExB a H H1 → Kn b H1 → Bag a n H1 → ∀ Q : List V → Hp → Prop, (∀ vs ds H2, ExB a H1 H2 → Bag a m H2 → DqAll K b H2 vs ds → P ds → Q vs H2) → ta σ H1 Q
def GS (ts : TS) (σ : L2.St) (H : Hp) (P : PyData → Prop) : Prop := ∀ H1, ExB a H H1 → Kn b H1 → Bag a n H1 → ∀ D : Ends, (∀ v d H2, ExB a H1 H2 → Bag a m H2 → Dq K b H2 v d → P d → D.rt v H2) → ts D σ H1
end
/-- a def that takes from the bag: at most n things; its data in, one datum out -/
def spG (K : PySem.W.Frag) (n : Nat) (pre : List PyData → Prop) (P : List PyData → PyData → Prop) : Sp := fun vs H Q _ =>
  ∃ b a k ws ds, vs = .ref a :: ws ∧ a ∈ b ∧ Kn b H ∧ Bag a (k + n) H ∧ DqAll K b H ws ds ∧ pre ds ∧ ∀ v d H', ExB a H H' → Bag a k H' → Dq K b H' v d → P ds d → Q v H'
section
variable {K : PySem.W.Frag} {b : List Addr} {a : Addr} {n m k : Nat} {σ : L2.St} {H H' : Hp} {ta tb te : TE} {t : TA} {tt : TT} {ts t1 t2 : TS} {P P' : PyData → Prop} {d : PyData}
theorem EG.imp (h : EG K b a n m te σ H P) (hp : ∀ d, P d → P' d) : EG K b a n m te σ H P' := fun H1 x1 kn bg Q q => h H1 x1 kn bg Q fun v d H2 x2 b2 hv p => q v d H2 x2 b2 hv (hp d p)
theorem EG.mono (x : ExB a H H') (h : EG K b a n m te σ H P) : EG K b a n m te σ H' P := fun H1 x1 => h H1 (x.trans x1)
theorem EG.le {m' : Nat} (h : EG K b a n m te σ H P) (hm : m' ≤ m) : EG K b a n m' te σ H P := fun H1 x1 kn bg Q q => h H1 x1 kn bg Q fun v d H2 x2 b2 hv p => q v d H2 x2 (b2.le hm) hv p
theorem eg_pure (h : ∀ H1, ExB a H H1 → Kn b H1 → ED K b te σ H1 d) (p : P d) : EG K b a n n te σ H P := fun H1 x1 kn bg Q q => h H1 x1 kn H1 (Ex.refl H1) Q fun v H2 x2 hv => q v d H2 (exb x2) (bg.ex x2) hv p
theorem eg_var {i : Nat} {v : V} (hv : σ[i]? = some (some v)) (ha : a ∈ b) (hd : Dq K b H v d) (p : P d) : EG K b a n n (tVar i) σ H P := eg_pure (fun H1 x1 _ => ed_var hv (hd.upB ha x1)) p
theorem ega_nil : EGA K b a n n tNil σ H (· = []) := fun H1 x1 kn bg Q q => q [] [] H1 (ExB.refl a H1) bg .nil rfl
theorem ega_cons {R : List PyData → Prop} (ha : a ∈ b) (h1 : EG K b a n k ta σ H P) (h2 : EGA K b a k m t σ H R) : EGA K b a n m (tCons ta t) σ H (fun ds => ∃ d r, ds = d :: r ∧ P d ∧ R r) := fun H1 x1 kn bg Q q =>
  h1 H1 x1 kn bg _ fun v d H2 x2 b2 hv p => h2 H2 (x1.trans x2) (x2.kn kn b2) b2 _ fun vs ds H3 x3 b3 hvs r => q _ (d :: ds) H3 (x2.trans x3) b3 (.cons (hv.upB ha x3) hvs) ⟨d, ds, rfl, p, r⟩
/-- a call of a def that takes from the bag -/
theorem eg_call {c : Nat} {pre : List PyData → Prop} {R : List PyData → PyData → Prop} {S : List PyData → Prop} {E : XK} {i : Nat} (ha : a ∈ b) (hb : σ[i]? = some (some (.ref a))) (hargs : EGA K b a n (m + c) t σ H S) (hp : ∀ ds, S ds → pre ds) (hr : ∀ ds d, S ds → R ds d → P d) :
    EG K b a n m (tCall (spG K c pre R) [] E (tCons (tVar i) t)) σ H P := fun H1 x1 kn bg Q q =>
  ⟨.ref a, hb, hargs H1 x1 kn bg _ fun vs ds H2 x2 b2 hvs s => ⟨b, a, m, vs, ds, by rw [List.append_nil], ha, x2.kn kn b2, b2, hvs, hp ds s, fun v d H3 x3 b3 hv r => q v d H3 (x2.trans x3) b3 hv (hr ds d s r)⟩⟩
theorem gs_ret (h : EG K b a n m te σ H P) : GS K b a n m (tRet te) σ H P := fun H1 x1 kn bg D q => h H1 x1 kn bg _ q
theorem gs_if {c : Bool} (hc : ∀ H1, ExB a H H1 → Kn b H1 → EvT tt σ H1 c) (h1 : c = true → GS K b a n m t1 σ H P) (h2 : c = false → GS K b a n m t2 σ H P) : GS K b a n m (tSeq (tIfS tt t1 tNext) t2) σ H P := fun H1 x1 kn bg D q =>
  hc H1 x1 kn H1 (Ex.refl H1) _ fun H2 x2 => by
    cases c with
    | true =>
      rw [if_pos rfl]
      exact h1 rfl H2 (x1.trans (exb x2)) (kn.up x2) (bg.ex x2) _ fun v d H3 x3 b3 hv p => q v d H3 ((exb x2).trans x3) b3 hv p
    | false =>
      rw [if_neg Bool.false_ne_true]
      exact h2 rfl H2 (x1.trans (exb x2)) (kn.up x2) (bg.ex x2) _ fun v d H3 x3 b3 hv p => q v d H3 ((exb x2).trans x3) b3 hv p
theorem gs_set {i : Nat} {P1 : PyData → Prop} (h : EG K b a n k te σ H P1) (kk : ∀ v d H', ExB a H H' → Dq K b H' v d → P1 d → GS K b a k m ts (σ.set i (some v)) H' P) : GS K b a n m (tSeq (tAsg te (gName i)) ts) σ H P := fun H1 x1 kn bg D q =>
  h H1 x1 kn bg _ fun v d H2 x2 b2 hv p => kk v d H2 (x1.trans x2) hv p H2 (ExB.refl a H2) (x2.kn kn b2) b2 D fun v' d' H3 x3 b3 hv' p' => q v' d' H3 (x2.trans x3) b3 hv' p'
/-- a conditional expression whose test is pure -/
theorem eg_if {c : Bool} (hc : ∀ H1, ExB a H H1 → Kn b H1 → EvT tt σ H1 c) (h1 : c = true → EG K b a n m ta σ H P) (h2 : c = false → EG K b a n m tb σ H P) : EG K b a n m (tIf tt ta tb) σ H P := fun H1 x1 kn bg Q q =>
  hc H1 x1 kn H1 (Ex.refl H1) _ fun H2 x2 => by
    cases c with
    | true =>
      rw [if_pos rfl]
      exact h1 rfl H2 (x1.trans (exb x2)) (kn.up x2) (bg.ex x2) _ fun v d H3 x3 b3 hv p => q v d H3 ((exb x2).trans x3) b3 hv p
    | false =>
      rw [if_neg Bool.false_ne_true]
      exact h2 rfl H2 (x1.trans (exb x2)) (kn.up x2) (bg.ex x2) _ fun v d H3 x3 b3 hv p => q v d H3 ((exb x2).trans x3) b3 hv p
/-- two operands, the operation pure on their data -/
theorem eg_op {r : R2} {P1 P2 : PyData → Prop} (ha : a ∈ b) (h1 : EG K b a n k ta σ H P1) (h2 : EG K b a k m tb σ H P2) (hr : ∀ d e H1 x y (Q : VK), P1 d → P2 e → ExB a H H1 → Kn b H1 → Dq K b H1 x d → Dq K b H1 y e → (∀ v z H2, Ex H1 H2 → Dq K b H2 v z → P z → Q v H2) → r x y H1 Q) : EG K b a n m (tOp r ta tb) σ H P := fun H1 x1 kn bg Q q =>
  h1 H1 x1 kn bg _ fun v d H2 x2 b2 hv p1 => h2 H2 (x1.trans x2) (x2.kn kn b2) b2 _ fun w e H3 x3 b3 hw p2 =>
    hr d e H3 v w Q p1 p2 ((x1.trans x2).trans x3) (x3.kn (x2.kn kn b2) b3) (hv.upB ha x3) hw fun u z H4 x4 hu p => q u z H4 ((x2.trans x3).trans (exb x4)) (b3.ex x4) hu p
/-- a new tuple of what is evaluated -/
theorem eg_tup {R : List PyData → Prop} (h : EGA K b a n m t σ H R) (hl : ∀ ds, R ds → ds.length ≤ sizeLine ∧ P (.tuple ds)) : EG K b a n m (tTupF t) σ H P := fun H1 x1 kn bg Q q =>
  h H1 x1 kn bg _ fun vs ds H2 x2 b2 hvs r => ⟨by rw [dps_len hvs]; exact (hl ds r).1, fun p o hp ho => by
    have e := hid_new (o := HO.frz o (.tup vs)) (H := H2) ((x2.kn kn b2).new hp)
    exact q _ (.tuple ds) _ (x2.trans (exb (Ex.new hp))) (b2.ex (Ex.new hp)) (.tup (.inl (.inr ⟨_, e⟩)) (.inl ⟨_, _, e, ho⟩) (hvs.up (Ex.new hp))) (hl ds r).2⟩
end
theorem GS.fin {K : PySem.W.Frag} {b : List Addr} {a : Addr} {n m : Nat} {σ : L2.St} {H : Hp} {ts : TS} {P : PyData → Prop} {D : Ends} (h : GS K b a n m ts σ H P) (kn : Kn b H) (bg : Bag a n H) (q : ∀ v d H', ExB a H H' → Bag a m H' → Dq K b H' v d → P d → D.rt v H') : ts D σ H := h H (ExB.refl a H) kn bg D q
/-! ### wide powers -/
def CPowW (i j : Int) : Prop := 0 ≤ j ∧ j ≤ 100 ∧ i.natAbs < 2 ^ 1000
theorem op_powW {X : Cx} : OpR X (binaryOp .Pow) (rI CPowW fun i j => .int (i ^ j.toNat)) := opI fun i j _ _ _ _ _ hc q => pow_int hc.1 (by
  have hlog : i.natAbs.log2 < 1000 := by
    by_cases h0 : i.natAbs = 0
    · rw [h0]; decide
    · exact (Nat.log2_lt h0).mpr hc.2.2
  have h1 : (Builtin.Int.intBits i : Nat) ≤ 1001 := by
    unfold Builtin.Int.intBits
    split <;> omega
  have h2 := hc.2.1
  have h3 := hc.1
  have h4 : ((Builtin.Int.intBits i : Nat) : Int) ≤ 1001 := by omega
  have h5 : ((Builtin.Int.intBits i : Nat) : Int) * j ≤ 1001 * 100 := Int.mul_le_mul h4 h2 h3 (by decide)
  exact Int.le_trans h5 (by decide)) q
end Wr

set_option Elab.async false
set_option linter.all false
set_option maxRecDepth 100000
set_option maxHeartbeats 4000000
namespace Wr
open PySem PySem.Spec PyProof.Rows L2 Evl
abbrev NT : List Str := ["_law_bag_here", "_law_many", "_law_digit", "_law_primes", "_law_step", "_law_base", "_law_mixed"]
theorem sc_take : FnScope NT ["_law_bag_here", "_law_many"] (defScope s_take) := ⟨rfl, rfl, rfl, by decide +kernel, rfl, by decide +kernel, by decide +kernel⟩
def primesD : List PyData := [.int 2147483629, .int 2147483587, .int 2147483579, .int 2147483563, .int 2147483549, .int 2147483543, .int 2147483497]
theorem primes_at {i : Int} (h0 : 0 ≤ i) (h1 : i < 7) : ∃ p, atI primesD i = some (.int p) ∧ 0 < p ∧ p < 2147483648 := by
  rcases (show i = 0 ∨ i = 1 ∨ i = 2 ∨ i = 3 ∨ i = 4 ∨ i = 5 ∨ i = 6 by omega) with rfl | rfl | rfl | rfl | rfl | rfl | rfl
  · exact ⟨_, rfl, by decide, by decide⟩
  · exact ⟨_, rfl, by decide, by decide⟩
  · exact ⟨_, rfl, by decide, by decide⟩
  · exact ⟨_, rfl, by decide, by decide⟩
  · exact ⟨_, rfl, by decide, by decide⟩
  · exact ⟨_, rfl, by decide, by decide⟩
  · exact ⟨_, rfl, by decide, by decide⟩
def TakePre (ds : List PyData) : Prop := ∃ m, ds = [.int m] ∧ 0 < m ∧ m < 1073741824
def TakeR (ds : List PyData) (d : PyData) : Prop := ∃ m r, ds = [.int m] ∧ d = .int r ∧ 0 ≤ r ∧ r < m
abbrev spTake (K : PySem.W.Frag) : Sp := spG K 1 TakePre TakeR
theorem spG_len {K : PySem.W.Frag} {n k : Nat} {pre : List PyData → Prop} {R : List PyData → PyData → Prop} (hl : ∀ ds, pre ds → ds.length = k) {vs : List V} {H : Hp} {Q : VK} {E : XK} (h : spG K n pre R vs H Q E) : vs.length = k + 1 := by
  obtain ⟨b, a, k', ws, ds, rfl, _, _, _, hd, hp, _⟩ := h
  rw [List.length_cons, dps_len hd, hl ds hp]
section
variable {K : PySem.W.Frag} {b : List Addr} {σ : L2.St} {H H' : Hp} {ta tb te : TE}
theorem gnext {D : Ends} {σ : L2.St} {H : Hp} (h : D.nx σ H) : tNext D σ H := h
theorem g_set {D : Ends} {i : Nat} {ts : TS} {d : PyData} (h : ED K b te σ H d) (k : ∀ v H', Ex H H' → Dq K b H' v d → ts D (σ.set i (some v)) H') : tSeq (tAsg te (gName i)) ts D σ H := h H (Ex.refl H) _ fun v H' x hv => k v H' x hv
/-- an item of the bag -/
theorem ed_bag {a : Addr} {xs : List V} {i j : Nat} {k : Int} (hs : σ[j]? = some (some (.ref a))) (h : H a = some (.lst xs)) (hi : xs[i]? = some (.int k)) : ED K b (tOp (rIxL K) (tVar j) (tC (.int (i : Nat)))) σ H (.int k) := fun H1 x1 Q q =>
  ⟨.ref a, hs, a, xs, (i : Nat), .int k, rfl, rfl, .inl (.inl (x1 _ _ h)), atI_nat hi, q _ H1 (Ex.refl H1) (.int _)⟩
theorem ed_mul {i j : Int} (ha : ED K b ta σ H (.int i)) (hb : ED K b tb σ H (.int j)) (hc : CMul i j) : ED K b (tOp (rI CMul fun i j => .int (i * j)) ta tb) σ H (.int (i * j)) := ed_I ha hb hc fun _ => .int _
theorem ed_mod {i j : Int} (ha : ED K b ta σ H (.int i)) (hb : ED K b tb σ H (.int j)) (hc : 0 < j) : ED K b (tOp (rI (fun _ j => 0 < j) fun i j => .int (i % j)) ta tb) σ H (.int (i % j)) := ed_I ha hb hc fun _ => .int _
theorem ed_fdiv {i j : Int} (ha : ED K b ta σ H (.int i)) (hb : ED K b tb σ H (.int j)) (hc : CDiv i j) : ED K b (tOp (rI CDiv fun i j => .int (i / j)) ta tb) σ H (.int (i / j)) := ed_I ha hb hc fun _ => .int _
theorem ed_powW {i j : Int} (ha : ED K b ta σ H (.int i)) (hb : ED K b tb σ H (.int j)) (hc : CPowW i j) : ED K b (tOp (rI CPowW fun i j => .int (i ^ j.toNat)) ta tb) σ H (.int (i ^ j.toNat)) := ed_I ha hb hc fun _ => .int _
end
section
variable {P : Program} {w : World} {K : PySem.W.Frag} {mg : Str → Option Value} {base : Heap} {f g g2 : Addr} {fd gd gd2 : FuncData}
theorem ok_take (D : Def K mg "_law_take" s_take ["_law_bag_here", "_law_many"] f fd) : FnOk P w K mg base CX0 1 f fd ["_law_bag_here", "_law_many"] (spTake K) := by
  refine D.F.ok sc_take (fun vs H Q E h => spG_len (fun ds ⟨m, e, _⟩ => by rw [e]; rfl) h) (fun cdv A outer s H vs Q E hr h => ?_)
  obtain ⟨b, a, k, ws, ds, rfl, hab, kn, ⟨gg, x, c, hb, g0, x0, x1, c0, c1⟩, hd, ⟨m, rfl, m0, m1⟩, q⟩ := h
  obtain ⟨v, d, rfl, ed, hv⟩ := one_of hd rfl
  cases ed
  have ev := dq_int hv
  subst ev
  refine ⟨_, pss_cons (ps_if (pt_cmpR op_gt (pe_ix ix_list (pv 0) pe_int (fun _ _ => rfl)) pe_int (nomark _))
      (pss_cons (ps_set (i := 2) sc_take.nd rfl (Or.inl rfl) (pe_op op_mod (pe_ix ix_list (pv 0) pe_int (fun _ _ => rfl)) (pv 1)))
      (pss_cons (ps_asg (pe_op op_fdiv (pe_ix ix_list (pv 0) pe_int (fun _ _ => rfl)) (pv 1)) (pg_sub (pv 0) pe_int set_list))
      (pss_one (ps_ret (pv 2))))) pss_nil)
    (pss_cons (ps_set (i := 3) sc_take.nd rfl (Or.inl rfl) (pe_tupF (pa_cons pe_int (pa_cons pe_int (pa_cons pe_int (pa_cons pe_int (pa_cons pe_int (pa_cons pe_int (pa_cons pe_int pa_nil)))))))))
    (pss_cons (ps_asg (pe_op op_add (pe_ix ix_list (pv 0) pe_int (fun _ _ => rfl)) pe_int) (pg_sub (pv 0) pe_int set_list))
    (pss_cons (ps_set (i := 4) sc_take.nd rfl (Or.inl rfl) (pe_ix ix_list (pv 0) pe_int (fun _ _ => rfl)))
    (pss_cons (ps_set (i := 5) sc_take.nd rfl (Or.inl rfl) (pe_op op_add (pe_op op_add (pe_op op_mul (pe_ix ix_list (pv 0) pe_int (fun _ _ => rfl)) (pe_op op_add (pe_op op_mul pe_int (pv 4)) pe_int)) (pe_op op_mul (pe_op op_mul pe_int (pv 4)) (pv 4))) pe_int))
    (pss_cons (ps_set (i := 6) sc_take.nd rfl (Or.inl rfl) (pe_op op_mod (pe_op op_powW (pv 5) pe_int) (pe_ix ix_tup (pv 3) (pe_op op_mod (pv 4) pe_int) (fun _ _ => rfl))))
    (pss_one (ps_ret (pe_op op_mod (pe_op op_fdiv (pe_op op_mod (pe_op op_mul (pv 6) (pe_op op_add (pe_op op_fdiv (pv 6) pe_int) (pv 4))) (pe_ix ix_tup (pv 3) (pe_op op_mod (pe_op op_add (pv 4) pe_int) pe_int) (fun _ _ => rfl))) pe_int) (pv 1))))))))), ?_⟩
  refine et_t (K := K) (b := b) (ed_gt (ed_bag (i := 0) rfl hb rfl) ed_int) H (Ex.refl H) _ fun H1 y1 => ?_
  by_cases hg : (0 : Int) < gg
  · rw [decide_eq_true hg, if_pos rfl]
    refine (ed_mod (K := K) (b := b) (ed_bag (i := 0) rfl (y1 _ _ hb) rfl) (ed_var (d := .int m) rfl (.int m)) m0) H1 (Ex.refl H1) _ fun v2 H2 y2 hv2 => ?_
    have e2 := dq_int hv2
    subst e2
    refine (ed_fdiv (K := K) (b := b) (ed_bag (i := 0) rfl (y2 _ _ (y1 _ _ hb)) rfl) (ed_var (d := .int m) rfl (.int m)) ⟨m0, m1⟩) H2 (Ex.refl H2) _ fun v3 H3 y3 hv3 => ?_
    have e3 := dq_int hv3
    subst e3
    have hb3 := y3 _ _ (y2 _ _ (y1 _ _ hb))
    refine ⟨.ref a, rfl, a, _, 0, 0, rfl, rfl, hb3, rfl, _, rfl, ?_⟩
    refine q _ (.int (gg % m)) _ (fun c o n h => ?_) ⟨gg / m, x, c, upd_same, Int.ediv_nonneg g0 (by omega), x0, x1, c0, by omega⟩ (.int _) ⟨m, gg % m, rfl, rfl, Int.emod_nonneg _ (by omega), Int.emod_lt_of_pos _ m0⟩
    rw [upd_ne n]
    exact y3 _ _ (y2 _ _ (y1 _ _ h))
  · rw [decide_eq_false hg, if_neg Bool.false_ne_true]
    have kn1 := kn.up y1
    refine gnext ?_
    refine g_set (ed_tup (K := K) (b := b) (ds := primesD) kn1 (ea_cons ed_int (ea_cons ed_int (ea_cons ed_int (ea_cons ed_int (ea_cons ed_int (ea_cons ed_int (ea_cons ed_int ea_nil))))))) (by decide)) fun vp H2 y2 hp => ?_
    have hb2 := y2 _ _ (y1 _ _ hb)
    refine (ed_add (K := K) (b := b) (ed_bag (i := 2) rfl hb2 rfl) ed_int) H2 (Ex.refl H2) _ fun v3 H3 y3 hv3 => ?_
    have e3 := dq_int hv3
    subst e3
    have hb3 := y3 _ _ hb2
    refine ⟨.ref a, rfl, a, _, 2, 2, rfl, rfl, hb3, rfl, ?_⟩
    have hb4 : (upd H3 a (.lst ([V.int gg, .int x, .int c].set 2 (.int (c + 1))))) a = some (.lst [.int gg, .int x, .int (c + 1)]) := upd_same
    have hx4 : ExB a H (upd H3 a (.lst ([V.int gg, .int x, .int c].set 2 (.int (c + 1))))) := fun z o n h => by
      rw [upd_ne n]
      exact y3 _ _ (y2 _ _ (y1 _ _ h))
    have hp4 : Dq K b (upd H3 a (.lst ([V.int gg, .int x, .int c].set 2 (.int (c + 1))))) vp (.tuple primesD) := Dq.upB hab hp fun z o n h => by
      rw [upd_ne n]
      exact y3 _ _ h
    generalize upd H3 a (.lst ([V.int gg, .int x, .int c].set 2 (.int (c + 1)))) = H4 at hb4 hx4 hp4
    refine (ed_bag (K := K) (b := b) (i := 2) rfl hb4 rfl) H4 (Ex.refl H4) _ fun v5 H5 y5 hv5 => ?_
    have e5 := dq_int hv5
    subst e5
    have s0 : 0 ≤ c + 1 := by omega
    have s1 : c + 1 ≤ 1000000 := by omega
    generalize hst : c + 1 = st at *
    refine (ed_add (K := K) (b := b) (ed_add (ed_mul (ed_bag (i := 1) rfl (y5 _ _ hb4) rfl) (ed_add (ed_mul ed_int (ed_var (d := .int st) rfl (.int st)) (.inl (by decide))) ed_int) (.inl ⟨by omega, by omega⟩))
      (ed_mul (ed_mul ed_int (ed_var (d := .int st) rfl (.int st)) (.inl (by decide))) (ed_var (d := .int st) rfl (.int st)) (.inr ⟨by omega, by omega⟩))) ed_int) H5 (Ex.refl H5) _ fun v6 H6 y6 hv6 => ?_
    have e6 := dq_int hv6
    subst e6
    have ba : x * (2 * st + 1) + 7919 * st * st + 29 < 2 ^ 200 ∧ 0 ≤ x * (2 * st + 1) + 7919 * st * st + 29 := by
      have a1 : x * (2 * st + 1) ≤ 2000000000000000000 * 2000001 := Int.mul_le_mul (by omega) (by omega) (by omega) (by decide)
      have a2 : 0 ≤ x * (2 * st + 1) := Int.mul_nonneg x0 (by omega)
      have a3 : 7919 * st * st ≤ 7919000000 * 1000000 := Int.mul_le_mul (by omega) s1 s0 (by decide)
      have a4 : 0 ≤ 7919 * st * st := Int.mul_nonneg (by omega) s0
      constructor
      · have : (2000000000000000000 * 2000001 + 7919000000 * 1000000 + 29 : Int) < 2 ^ 200 := by decide
        omega
      · omega
    generalize x * (2 * st + 1) + 7919 * st * st + 29 = bs at ba
    obtain ⟨p1, hp1, p10, p11⟩ := primes_at (Int.emod_nonneg st (by decide : (7 : Int) ≠ 0)) (Int.emod_lt_of_pos st (by decide))
    obtain ⟨p2, hp2, p20, p21⟩ := primes_at (Int.emod_nonneg (st + 3) (by decide : (7 : Int) ≠ 0)) (Int.emod_lt_of_pos (st + 3) (by decide))
    have hpw : CPowW bs 3 := ⟨by decide, by decide, by
      have : bs.natAbs < 2 ^ 200 := by
        have h1 := ba.1
        have h2 : ((bs.natAbs : Nat) : Int) < ((2 ^ 200 : Nat) : Int) := by
          have e : ((2 ^ 200 : Nat) : Int) = 2 ^ 200 := by norm_cast
          rw [e]
          omega
        exact Int.ofNat_lt.mp h2
      exact Nat.lt_trans this (by decide)⟩
    refine (ed_mod (K := K) (b := b) (ed_powW (ed_var (d := .int bs) rfl (.int bs)) ed_int hpw) (ed_ixT (ed_var rfl ((hp4.up y5).up y6)) (ed_mod (ed_var (d := .int st) rfl (.int st)) ed_int (by decide)) hp1) p10) H6 (Ex.refl H6) _ fun v7 H7 y7 hv7 => ?_
    have e7 := dq_int hv7
    subst e7
    have mx0 := Int.emod_nonneg (bs ^ (3 : Int).toNat) (show p1 ≠ 0 by omega)
    have mx1 := Int.emod_lt_of_pos (bs ^ (3 : Int).toNat) p10
    generalize bs ^ (3 : Int).toNat % p1 = mx at mx0 mx1
    refine (ed_mod (K := K) (b := b) (ed_fdiv (ed_mod (ed_mul (ed_var (d := .int mx) rfl (.int mx)) (ed_add (ed_fdiv (ed_var (d := .int mx) rfl (.int mx)) ed_int ⟨by decide, by decide⟩) (ed_var (d := .int st) rfl (.int st))) (.inl ⟨by omega, by omega⟩))
      (ed_ixT (ed_var rfl (((hp4.up y5).up y6).up y7)) (ed_mod (ed_add (ed_var (d := .int st) rfl (.int st)) ed_int) ed_int (by decide)) hp2) p20) ed_int ⟨by decide, by decide⟩) (ed_var (d := .int m) rfl (.int m)) m0) H7 (Ex.refl H7) _ fun v8 H8 y8 hv8 => ?_
    refine q _ _ _ (hx4.trans (exb (((y5.trans y6).trans y7).trans y8))) ⟨gg, x, st, (((y5.trans y6).trans y7).trans y8) _ _ hb4, g0, x0, x1, s0, by omega⟩ hv8 ⟨m, _, rfl, rfl, Int.emod_nonneg _ (by omega), Int.emod_lt_of_pos _ m0⟩
end
end Wr

set_option Elab.async false
set_option linter.all false
set_option maxRecDepth 100000
set_option maxHeartbeats 4000000
namespace Wr
open PySem PySem.Spec PyProof.Rows L2 Evl
abbrev NN2 : List Str := ["_law_bag_here", "_law_many", "_law_letters", "_law_first", "_law_long", "_law_k"]
def IntB (m : Int) (d : PyData) : Prop := ∃ r, d = .int r ∧ 0 ≤ r ∧ r < m
section
variable {K : PySem.W.Frag} {b : List Addr} {a : Addr} {n m k : Nat} {σ : L2.St} {H H' : Hp} {ta tb te : TE} {t : TA} {tt : TT} {ts t1 t2 : TS} {P P' : PyData → Prop} {d : PyData}
theorem eg_takeE {i : Nat} {u : Int} {P1 : PyData → Prop} {E : XK} (ha : a ∈ b) (hb : σ[i]? = some (some (.ref a))) (h : EG K b a n (m + 1) te σ H P1) (hp : ∀ d, P1 d → ∃ j, d = .int j ∧ 0 < j ∧ j < 1073741824 ∧ j ≤ u) : EG K b a n m (tCall (spTake K) [] E (tCons (tVar i) (tCons te tNil))) σ H (IntB u) :=
  eg_call ha hb (ega_cons ha h ega_nil) (fun ds ⟨d, r, e, p, er⟩ => by
    obtain ⟨j, rfl, h1, h2, _⟩ := hp d p
    subst er
    exact ⟨j, e, h1, h2⟩) fun ds d ⟨d', r, e, p, er⟩ ⟨j, x, e1, e2, h1, h2⟩ => by
    obtain ⟨j', rfl, _, _, h3⟩ := hp d' p
    subst er
    rw [e] at e1
    have ej : j' = j := by injection e1 with e1 _; injection e1
    exact ⟨x, e2, h1, by omega⟩
theorem eg_take {i : Nat} {u : Int} {E : XK} (ha : a ∈ b) (hb : σ[i]? = some (some (.ref a))) (h0 : 0 < u) (h1 : u < 1073741824) : EG K b a (n + 1) n (tCall (spTake K) [] E (tCons (tVar i) (tCons (tC (.int u)) tNil))) σ H (IntB u) :=
  eg_takeE (P1 := fun d => d = .int u) ha hb (eg_pure (fun _ _ _ => ed_int) rfl) fun d e => ⟨u, e, h0, h1, Int.le_refl u⟩
theorem eg_ixL {P1 P2 : PyData → Prop} (ha : a ∈ b) (h1 : EG K b a n k ta σ H P1) (h2 : EG K b a k m tb σ H P2) (hi : ∀ d e, P1 d → P2 e → ∃ ds i z, d = .list ds ∧ e = .int i ∧ atI ds i = some z ∧ P z) : EG K b a n m (tOp (rIxL K) ta tb) σ H P :=
  eg_op ha h1 h2 fun d e H1 x y Q p1 p2 _ _ hx hy q => by
    obtain ⟨ds, i, z, rfl, rfl, hz, p⟩ := hi d e p1 p2
    cases hx with
    | lst g1 g2 =>
      obtain ⟨v, q1, q2⟩ := dps_atI g2 hz
      exact ⟨_, _, i, v, rfl, dq_int hy, ex_l hid_le g1, q1, q v z H1 (Ex.refl H1) q2 p⟩
theorem eg_I0 {g : Int → Int → Int} {P1 P2 : PyData → Prop} (ha : a ∈ b) (h1 : EG K b a n k ta σ H P1) (h2 : EG K b a k m tb σ H P2) (hi : ∀ d e, P1 d → P2 e → ∃ i j, d = .int i ∧ e = .int j ∧ P (.int (g i j))) : EG K b a n m (tOp (rI0 fun i j => .int (g i j)) ta tb) σ H P :=
  eg_op ha h1 h2 fun d e H1 x y Q p1 p2 _ _ hx hy q => by
    obtain ⟨i, j, rfl, rfl, p⟩ := hi d e p1 p2
    exact ⟨i, j, dq_int hx, dq_int hy, q _ _ H1 (Ex.refl H1) (.int _) p⟩
theorem intB_at {ds : List PyData} {u : Int} {d : PyData} (h : IntB u d) (hu : u ≤ ds.length) : ∃ i z, d = .int i ∧ atI ds i = some z ∧ z ∈ ds := by
  obtain ⟨r, rfl, h0, h1⟩ := h
  have hr : r.toNat < ds.length := by omega
  have e : ((r.toNat : Nat) : Int) = r := Int.toNat_of_nonneg h0
  have q := atI_nat (xs := ds) (j := r.toNat) (List.getElem?_eq_getElem hr)
  rw [e] at q
  exact ⟨r, ds[r.toNat], rfl, q, List.getElem_mem hr⟩
end
section
variable {P : Program} {w : World} {K : PySem.W.Frag} {mg : Str → Option Value} {base : Heap} {f g g2 : Addr} {fd gd gd2 : FuncData}
end
end Wr

set_option Elab.async false
set_option linter.all false
set_option maxRecDepth 100000
set_option maxHeartbeats 4000000
namespace Wr
open PySem PySem.Spec PyProof.Rows L2 Evl
/-! ### text * number -/
def repS (x : Str) (n : Int) : Str := ⟨(List.replicate n.toNat x.cps.toList).flatten.toArray⟩
def rMulS : R2 := fun x y H Q => ∃ z n, x = .str z ∧ y = .int n ∧ 0 ≤ n ∧ n ≤ 1000 ∧ z.length ≤ 1000 ∧ Q (.str (repS z n)) H
theorem rep_fold : ∀ (n : Nat) (x : Array Nat) (acc : Array Nat), (List.replicate n x).foldl (· ++ ·) acc = acc ++ (List.replicate n x.toList).flatten.toArray
  | 0, x, acc => by simp
  | n + 1, x, acc => by
    rw [List.replicate_succ, List.replicate_succ, List.foldl_cons, rep_fold n x]
    obtain ⟨l⟩ := x
    simp
theorem rep_len (z : Str) (n : Int) : (repS z n).length = n.toNat * z.length := by
  show (List.replicate n.toNat z.cps.toList).flatten.toArray.size = n.toNat * z.cps.size
  simp
theorem op_mulS {X : Cx} : OpR X (binaryOp .Mult) rMulS := by
  intro pins s σ H x y v u Q I rx ry ⟨z, n, e1, e2, h0, h1, hz, q⟩
  subst e1 e2
  obtain ⟨t, rfl⟩ := rx
  obtain ⟨t2, rfl⟩ := ry
  have hs : sizeLine = 16777216 := sizeLine_eq
  refine PySem.P.mul_str (by rw [decide_eq_false (by omega), decide_eq_false (by omega)]; rfl) (fun h _ => ?_) (fun _ _ => ?_) ?_
  · have : (z.length : Int) ≤ 1000 := by omega
    have h2 : (9223372036854775 : Int) ≤ (2 ^ 63 - 1) / n := by
      rw [Int.le_ediv_iff_mul_le (by omega)]
      have : 9223372036854775 * n ≤ 9223372036854775 * 1000 := Int.mul_le_mul_of_nonneg_left h1 (by decide)
      omega
    omega
  · have : z.length * n.toNat ≤ 1000 * 1000 := Nat.mul_le_mul hz (by omega)
    unfold Builtin.Str.tooLong
    exact decide_eq_false (by omega)
  · by_cases hn : n < 1
    · rw [if_pos hn]
      have e0 : n = 0 := by omega
      subst e0
      exact ⟨by decide, .str (repS z 0), H, I.tok _, ⟨_, rfl⟩, q⟩
    · rw [if_neg hn]
      by_cases hc : (n == 1 || z.length == 0) = true
      · rw [if_pos hc]
        have e : repS z n = z := by
          rcases (show n = 1 ∨ z.length = 0 by simpa using hc) with rfl | hl
          · show (⟨(List.replicate 1 z.cps.toList).flatten.toArray⟩ : Str) = z
            simp
          · have h2 : z.cps.toList = [] := by
              have : z.cps.size = 0 := hl
              simpa using this
            unfold repS
            rw [h2]
            have h3 : (List.replicate n.toNat ([] : List Nat)).flatten = [] := by simp
            rw [h3]
            obtain ⟨c⟩ := z
            simp at h2
            subst h2
            rfl
        rw [e] at q
        exact ⟨.str z, H, I, ⟨_, rfl⟩, q⟩
      · rw [if_neg hc]
        have e : (⟨(List.replicate n.toNat z.cps).foldl (· ++ ·) #[]⟩ : Str) = repS z n := by
          unfold repS
          rw [rep_fold]
          simp
        rw [e]
        refine ⟨?_, .str (repS z n), H, I.tok _, ⟨_, rfl⟩, q⟩
        rw [rep_len]
        have : n.toNat * z.length ≤ 1000 * 1000 := Nat.mul_le_mul (by omega) hz
        omega
section
variable {K : PySem.W.Frag} {b : List Addr} {σ : L2.St} {H H' : Hp} {ta tb te : TE}
theorem ed_mulS {z : Str} {n : Int} (ha : ED K b ta σ H (.str z)) (hb : ED K b tb σ H (.int n)) (h0 : 0 ≤ n) (h1 : n ≤ 1000) (hz : z.length ≤ 1000) : ED K b (tOp rMulS ta tb) σ H (.str (repS z n)) :=
  ed_op ha hb fun H1 x y Q _ hx hy q => ⟨z, n, dq_str hx, dq_int hy, h0, h1, hz, q _ H1 (Ex.refl H1) (.str _)⟩
def rAddT : R2 := fun x y H Q => ∃ i j, x = .str i ∧ y = .str j ∧ i.length + j.length ≤ sizeLine ∧ Q (.str (i ++ j)) H
theorem op_addT {X : Cx} : OpR X (binaryOp .Add) rAddT := op_add_str
theorem ed_addT {z y : Str} (ha : ED K b ta σ H (.str z)) (hb : ED K b tb σ H (.str y)) (hl : z.length + y.length ≤ sizeLine) : ED K b (tOp rAddT ta tb) σ H (.str (z ++ y)) :=
  ed_op ha hb fun H1 x y' Q _ hx hy q => ⟨z, y, dq_str hx, dq_str hy, hl, q _ H1 (Ex.refl H1) (.str _)⟩
theorem ed_ixS {z : Str} {i : Int} {c : Nat} (ha : ED K b ta σ H (.str z)) (hb : ED K b tb σ H (.int i)) (hl : z.length ≤ sizeLine) (hi : atI z.cps.toList i = some c) : ED K b (tOp rIxS ta tb) σ H (.str ⟨#[c]⟩) :=
  ed_op ha hb fun H1 x y Q _ hx hy q => ⟨z, i, c, dq_str hx, dq_int hy, hl, hi, q _ H1 (Ex.refl H1) (.str _)⟩
theorem ed_lcR {k : Nat} {n : Int} {f : Nat → PyData} (kn : Kn b H) (ha : ED K b ta σ H (.int n)) (h0 : 0 ≤ n) (h1 : n ≤ 1000)
    (he : ∀ (i : Nat) (H3 : Hp), (i : Int) < n → Ex H H3 → ED K b te ((wipe σ [k]).set k (some (.int (i : Nat)))) H3 (f i)) (hf : ∀ i, flatP (f i) = true) : ED K b (tLc (iRng1 (tCons ta tNil)) (gName k) tYes te [k]) σ H (.list ((List.range n.toNat).map f)) := fun H1 x1 Q q =>
  ha H1 x1 _ fun x H2 x2 hx => by
    have e := dq_int hx
    subst e
    have wk : Walk (Itr 0 n.toNat) n.toNat (fun _ => True) (YAt ((List.range n.toNat).map fun i => V.int ((i : Nat) : Int))) := walk_range.mono (fun _ _ => trivial) fun i H x H' hi _ ⟨e, h⟩ => ⟨e, by
      rw [List.getElem?_map, List.getElem?_range hi, h]
      show some (V.int ((i : Nat) : Int)) = some (V.int (0 + (i : Int)))
      rw [Int.zero_add]⟩
    have hsl : sizeLine = 16777216 := sizeLine_eq
    refine ⟨n, rfl, by omega, by omega, lc_flat (K := K) (g := f) (p := fun _ => true) wk (by rw [List.length_map, List.length_range]) (by omega) (kn.up (x1.trans x2)) (fun _ _ => trivial) (fun _ _ _ _ _ => et_yes) ?_ (fun i _ _ => hf i) ?_⟩
    · intro i x H3 hx _ x3
      have hi : i < n.toNat := by
        have := (List.getElem?_eq_some_iff.mp hx).1
        rw [List.length_map, List.length_range] at this
        exact this
      rw [List.getElem?_map, List.getElem?_range hi] at hx
      have ex := (Option.some.inj hx).symm
      subst ex
      exact he i H3 (by omega) ((x1.trans x2).trans x3)
    · intro v H3 x3 hv
      refine q v H3 (x2.trans x3) ?_
      rw [filter_yes] at hv
      exact hv
end
/-! ### the drawn names -/
theorem abc_at {i : Int} (h0 : 0 ≤ i) (h1 : i < 26) : atI abc.cps.toList i = some (97 + i.toNat) := by
  have e : abc.cps.toList = (List.range 26).map (· + 97) := by decide +kernel
  have q := atI_nat (xs := abc.cps.toList) (j := i.toNat) (v := 97 + i.toNat) (by
    rw [e, List.getElem?_map, List.getElem?_range (by omega)]
    show some (i.toNat + 97) = some (97 + i.toNat)
    rw [Nat.add_comm])
  rw [Int.toNat_of_nonneg h0] at q
  exact q
def nmS (first long : Int) (k : Nat) : Str := (⟨#[97 + ((first + (k : Int)) % 26).toNat]⟩ : Str) ++ repS ⟨#[97 + first.toNat]⟩ long
theorem rep_one (c : Nat) (n : Int) : (repS ⟨#[c]⟩ n).cps.toList = List.replicate n.toNat c := by
  unfold repS
  have : ∀ k : Nat, (List.replicate k [c]).flatten = List.replicate k c := by
    intro k
    induction k with
    | zero => rfl
    | succ k ih =>
      rw [List.replicate_succ, List.flatten_cons, ih, List.replicate_succ]
      rfl
  show ((List.replicate n.toNat [c]).flatten.toArray).toList = _
  rw [this]
theorem nm_list (first long : Int) (k : Nat) : (nmS first long k).cps.toList = (97 + ((first + (k : Int)) % 26).toNat) :: List.replicate long.toNat (97 + first.toNat) := by
  show ((#[97 + ((first + (k : Int)) % 26).toNat] : Array Nat) ++ (repS ⟨#[97 + first.toNat]⟩ long).cps).toList = _
  rw [Array.toList_append, rep_one]
  rfl
theorem nm_name {first long : Int} (f0 : 0 ≤ first) (f1 : first < 26) (l0 : 0 ≤ long) (l1 : long < 8) (k : Nat) : nameS (nmS first long k) = true := by
  rw [nameS_az]
  unfold azS
  have hl : (nmS first long k).length = long.toNat + 1 := by
    show (nmS first long k).cps.size = _
    rw [← Array.length_toList, nm_list, List.length_cons, List.length_replicate]
  have m0 := Int.emod_nonneg (first + (k : Int)) (by decide : (26 : Int) ≠ 0)
  have m1 := Int.emod_lt_of_pos (first + (k : Int)) (by decide : (0 : Int) < 26)
  rw [hl, decide_eq_true (by omega), Bool.true_and, nm_list, List.all_eq_true]
  intro c hc
  apply decide_eq_true
  rw [abc_mem]
  rcases List.mem_cons.mp hc with rfl | hc
  · omega
  · have := (List.mem_replicate.mp hc).2
    omega
theorem nodup_range_map {α : Type} (g : Nat → α) : ∀ m : Nat, (∀ i j, i < m → j < m → g i = g j → i = j) → ((List.range m).map g).Nodup
  | 0, _ => by simp
  | m + 1, h => by
    rw [List.range_succ, List.map_append, List.nodup_append]
    refine ⟨nodup_range_map g m fun i j hi hj => h i j (by omega) (by omega), by simp, fun x hx y hy e => ?_⟩
    obtain ⟨i, hi, rfl⟩ := List.mem_map.mp hx
    have hy' : y = g m := by simpa using hy
    subst hy'
    have := List.mem_range.mp hi
    have := h i m (by omega) (by omega) e
    omega
theorem nm_nodup {first long : Int} {m : Nat} (hm : m ≤ 8) : ((List.range m).map (nmS first long)).Nodup := by
  refine nodup_range_map _ m fun i j hi hj e => ?_
  have e1 := congrArg (fun s : Str => s.cps.toList.head?) e
  simp only [nm_list, List.head?_cons] at e1
  have e2 := Option.some.inj e1
  have mi := Int.emod_nonneg (first + (i : Int)) (by decide : (26 : Int) ≠ 0)
  have mj := Int.emod_nonneg (first + (j : Int)) (by decide : (26 : Int) ≠ 0)
  omega
def NamesR (ds : List PyData) (d : PyData) : Prop := ∃ (m : Int) (xs : List Str), ds = [.int m] ∧ d = .list (xs.map .str) ∧ (xs.length : Int) = m ∧ xs.all nameS = true ∧ xs.Nodup
section
variable {P : Program} {w : World} {K : PySem.W.Frag} {mg : Str → Option Value} {base : Heap} {f g g2 : Addr} {fd gd gd2 : FuncData}
end
end Wr

set_option Elab.async false
set_option linter.all false
set_option maxRecDepth 100000
set_option maxHeartbeats 4000000
namespace Wr
open PySem PySem.Spec PyProof.Rows L2 Evl
/-! ### how great data are -/
def okL (L : Nat) : Nat → PyData → Bool
  | _, .none => true
  | _, .bool _ => true
  | _, .int i => decide (i.natAbs < 10 ^ 40 + L)
  | _, .str x => PyData.strOk x && decide (x.length ≤ 1000)
  | n + 1, .list ds => decide (ds.length ≤ L) && ds.all (okL L n)
  | n + 1, .tuple ds => decide (ds.length ≤ L) && ds.all (okL L n)
  | _, _ => false
theorem int_room {L i : Nat} (hL : L ≤ 1000) (h : i < 10 ^ 40 + L) : i < 10 ^ 45 := by
  have : (10 ^ 40 + 1000 : Nat) < 10 ^ 45 := by decide
  omega
theorem okL_ok {L : Nat} (hL : L ≤ 1000) : ∀ (n : Nat) (d : PyData), okL L n d = true → okD n d = true
  | 0, .none, _ => rfl
  | 0, .bool _, _ => rfl
  | 0, .int i, h => decide_eq_true (int_room hL (of_decide_eq_true h))
  | 0, .str x, h => h
  | 0, .list ds, h => by cases h
  | 0, .tuple ds, h => by cases h
  | 0, .dict _, h => by cases h
  | _ + 1, .none, _ => rfl
  | _ + 1, .bool _, _ => rfl
  | _ + 1, .int i, h => decide_eq_true (int_room hL (of_decide_eq_true h))
  | _ + 1, .str x, h => h
  | _ + 1, .dict _, h => by cases h
  | n + 1, .list ds, h => by
    have h' : (decide (ds.length ≤ L) && ds.all (okL L n)) = true := h
    show (decide (ds.length ≤ 1000) && ds.all (okD n)) = true
    rw [Bool.and_eq_true] at h' ⊢
    exact ⟨decide_eq_true (Nat.le_trans (of_decide_eq_true h'.1) hL), List.all_eq_true.mpr fun d hd => okL_ok hL n d (List.all_eq_true.mp h'.2 d hd)⟩
  | n + 1, .tuple ds, h => by
    have h' : (decide (ds.length ≤ L) && ds.all (okL L n)) = true := h
    show (decide (ds.length ≤ 1000) && ds.all (okD n)) = true
    rw [Bool.and_eq_true] at h' ⊢
    exact ⟨decide_eq_true (Nat.le_trans (of_decide_eq_true h'.1) hL), List.all_eq_true.mpr fun d hd => okL_ok hL n d (List.all_eq_true.mp h'.2 d hd)⟩
theorem okL_up {L M : Nat} (hL : L ≤ M) : ∀ (n m : Nat) (d : PyData), n ≤ m → okL L n d = true → okL M m d = true
  | _, 0, .none, _, _ => rfl
  | _, _ + 1, .none, _, _ => rfl
  | _, 0, .bool _, _, _ => rfl
  | _, _ + 1, .bool _, _, _ => rfl
  | n, m, .int i, _, h => by
    have h' : decide (i.natAbs < 10 ^ 40 + L) = true := by cases n <;> exact h
    have h2 : decide (i.natAbs < 10 ^ 40 + M) = true := decide_eq_true (by have := of_decide_eq_true h'; omega)
    cases m <;> exact h2
  | n, m, .str x, _, h => by cases n <;> cases m <;> exact h
  | 0, _, .list ds, _, h => by cases h
  | 0, _, .tuple ds, _, h => by cases h
  | 0, _, .dict _, _, h => by cases h
  | _ + 1, _, .dict _, _, h => by cases h
  | n + 1, 0, .list ds, hm, h => by omega
  | n + 1, 0, .tuple ds, hm, h => by omega
  | n + 1, m + 1, .list ds, hm, h => by
    have h' : (decide (ds.length ≤ L) && ds.all (okL L n)) = true := h
    show (decide (ds.length ≤ M) && ds.all (okL M m)) = true
    rw [Bool.and_eq_true] at h' ⊢
    exact ⟨decide_eq_true (Nat.le_trans (of_decide_eq_true h'.1) hL), List.all_eq_true.mpr fun d hd => okL_up hL n m d (by omega) (List.all_eq_true.mp h'.2 d hd)⟩
  | n + 1, m + 1, .tuple ds, hm, h => by
    have h' : (decide (ds.length ≤ L) && ds.all (okL L n)) = true := h
    show (decide (ds.length ≤ M) && ds.all (okL M m)) = true
    rw [Bool.and_eq_true] at h' ⊢
    exact ⟨decide_eq_true (Nat.le_trans (of_decide_eq_true h'.1) hL), List.all_eq_true.mpr fun d hd => okL_up hL n m d (by omega) (List.all_eq_true.mp h'.2 d hd)⟩
theorem okL_tup {L n : Nat} {ds : List PyData} (hl : ds.length ≤ L) (h : ∀ d ∈ ds, okL L n d = true) : okL L (n + 1) (.tuple ds) = true := by
  show (decide (ds.length ≤ L) && ds.all (okL L n)) = true
  rw [decide_eq_true hl, Bool.true_and]
  exact List.all_eq_true.mpr h
theorem okL_items {L n : Nat} {ds : List PyData} (h : okL L (n + 1) (.tuple ds) = true) : ds.length ≤ L ∧ ∀ d ∈ ds, okL L n d = true := by
  have h' : (decide (ds.length ≤ L) && ds.all (okL L n)) = true := h
  rw [Bool.and_eq_true] at h'
  exact ⟨of_decide_eq_true h'.1, List.all_eq_true.mp h'.2⟩
mutual
def szD : PyData → Nat
  | .none => 4
  | .bool _ => 5
  | .int _ => 1921
  | .str x => 10 * x.length + 2
  | .list xs => szAll xs + 3
  | .tuple xs => szAll xs + 3
  | .dict _ => 0
def szAll : List PyData → Nat
  | [] => 0
  | x :: xs => szD x + 2 + szAll xs
end
theorem szAll_app (xs ys : List PyData) : szAll (xs ++ ys) = szAll xs + szAll ys := by
  induction xs with
  | nil => simp only [List.nil_append, szAll, Nat.zero_add]
  | cons x r ih =>
    simp only [List.cons_append, szAll, ih]
    omega
theorem szAll_le {c : Nat} : ∀ {xs : List PyData}, (∀ x ∈ xs, szD x ≤ c) → szAll xs ≤ xs.length * (c + 2)
  | [], _ => by simp only [szAll]; omega
  | x :: xs, h => by
    have h1 := h x List.mem_cons_self
    have h2 := szAll_le fun y hy => h y (List.mem_cons_of_mem _ hy)
    simp only [szAll, List.length_cons, Nat.add_mul]
    omega
theorem szD_str (x : Str) : szD (.str x) = 10 * x.length + 2 := by simp only [szD]
theorem szD_int (i : Int) : szD (.int i) = 1921 := by simp only [szD]
theorem szD_tup (xs : List PyData) : szD (.tuple xs) = szAll xs + 3 := by simp only [szD]
theorem szD_lst (xs : List PyData) : szD (.list xs) = szAll xs + 3 := by simp only [szD]
theorem name_len {x : Str} (h : nameS x = true) : x.length ≤ 8 := by
  unfold nameS at h
  rw [Bool.and_eq_true] at h
  exact of_decide_eq_true h.1
theorem okL_str {L n : Nat} {x : Str} (h : PyData.strOk x = true) (hl : x.length ≤ 1000) : okL L n (.str x) = true := by
  have e : (PyData.strOk x && decide (x.length ≤ 1000)) = true := by
    rw [h, decide_eq_true hl]
    rfl
  cases n <;> exact e
theorem okL_int {L n : Nat} {i : Int} (h : i.natAbs < 10 ^ 40) : okL L n (.int i) = true := by
  have h2 : decide (i.natAbs < 10 ^ 40 + L) = true := decide_eq_true (by omega)
  cases n <;> exact h2
end Wr

set_option Elab.async false
set_option linter.all false
set_option maxRecDepth 100000
set_option maxHeartbeats 4000000
namespace Wr
open PySem PySem.Spec PyProof.Rows L2 Evl
abbrev NR3 : List Str := ["_law_bag_here", "_law_at", "_law_many", "_law_called", "_law_names_here", "_law_alone", "_law_way", "_law_goal"]
structure RowArgs (i m : Int) (xs ys : List Str) : Prop where
  i0 : 0 ≤ i
  m0 : 1 ≤ m
  m1 : m ≤ 60
  x0 : 1 ≤ xs.length
  x1 : xs.length ≤ 8
  xn : xs.all nameS = true
  y0 : 1 ≤ ys.length
  y1 : ys.length ≤ 8
  yn : ys.all nameS = true
def RowP (i m : Int) (xs : List Str) (d : PyData) : Prop := rowD d i m xs = true ∧ okL 60 1 d = true ∧ szD d ≤ 2000
theorem row_words {z : Str} (h : z ∈ loneW ++ nameW ++ rowW) : PyData.strOk z = true ∧ z.length ≤ 6 := by
  have q : ((loneW ++ nameW ++ rowW).all fun z => PyData.strOk z && decide (z.length ≤ 6)) = true := by decide +kernel
  have := List.all_eq_true.mp q z h
  rw [Bool.and_eq_true] at this
  exact ⟨this.1, of_decide_eq_true this.2⟩
theorem worth_small {d : PyData} (h : worthD d = true) : ∃ i, d = .int i ∧ i.natAbs < 10 ^ 40 := by
  cases d with
  | int i =>
    have h' : (decide (-1000000000000 ≤ i) && decide (i ≤ 1000000000000)) = true := h
    rw [Bool.and_eq_true] at h'
    have h1 := of_decide_eq_true h'.1
    have h2 := of_decide_eq_true h'.2
    refine ⟨i, rfl, ?_⟩
    have : (1000000000000 : Nat) < 10 ^ 40 := by decide
    omega
  | none => cases h
  | bool _ => cases h
  | str _ => cases h
  | list _ => cases h
  | tuple _ => cases h
  | dict _ => cases h
/-- a row of a written word and something small -/
theorem rowP_two {i m : Int} {xs : List Str} {z : Str} {c : PyData} (hz : PyData.strOk z = true) (hl : z.length ≤ 6) (hr : rowD (.tuple [.str z, c]) i m xs = true) (hc : okL 60 0 c = true) (hs : szD c ≤ 1921) : RowP i m xs (.tuple [.str z, c]) := by
  refine ⟨hr, okL_tup (by show 2 ≤ 60; decide) fun d hd => ?_, ?_⟩
  · simp only [List.mem_cons, List.not_mem_nil, or_false] at hd
    rcases hd with rfl | rfl
    · exact okL_str hz (by omega)
    · exact hc
  · rw [szD_tup]
    simp only [szAll, szD_str]
    omega
theorem rowP_go {i m g : Int} {xs : List Str} {z : Str} (hz : z ∈ rowW) (h0 : 0 ≤ g) (h1 : g < m) (hm : m ≤ 60) (ht : z = "try" → g ≠ i + 1) : RowP i m xs (.tuple [.str z, .int g]) := by
  have hw := row_words (z := z) (List.mem_append_right _ hz)
  have hb : g.natAbs < 10 ^ 40 := by
    have : (60 : Nat) < 10 ^ 40 := by decide
    omega
  refine rowP_two hw.1 hw.2 ?_ (okL_int hb) (by rw [szD_int]; exact Nat.le_refl _)
  have n1 : z ≠ "put" ∧ z ∉ nameW ∧ z ≠ "call" := by
    rcases (show z = "go" ∨ z = "if" ∨ z = "try" by simpa [rowW] using hz) with rfl | rfl | rfl <;> refine ⟨by decide +kernel, by decide +kernel, by decide +kernel⟩
  rw [rowD_two, strEq, strEq, strEq, inD_str, inD_str, decide_eq_false n1.1, decide_eq_false n1.2.1, decide_eq_false n1.2.2, decide_eq_true hz]
  show (true && (indexD (.int g) m && !(decide (z = "try") && PyData.eqv (.int g) (.int (i + 1))))) = true
  rw [eqv_int]
  have e1 : indexD (.int g) m = true := by
    show (decide (0 ≤ g) && decide (g < m)) = true
    rw [decide_eq_true h0, decide_eq_true h1]
    rfl
  rw [e1]
  by_cases hq : z = "try"
  · rw [beq_eq_false_iff_ne.mpr (ht hq), Bool.and_false]
    rfl
  · rw [decide_eq_false hq]
    rfl
section
variable {P : Program} {w : World} {K : PySem.W.Frag} {mg : Str → Option Value} {base : Heap} {f g g2 : Addr} {fd gd gd2 : FuncData}
def RowGenPre (ds : List PyData) : Prop := ∃ (i m : Int) (xs ys : List Str), ds = [.int i, .int m, .list (xs.map .str), .list (ys.map .str)] ∧ RowArgs i m xs ys
def RowGenR (ds : List PyData) (d : PyData) : Prop := ∃ (i m : Int) (xs ys : List Str), ds = [.int i, .int m, .list (xs.map .str), .list (ys.map .str)] ∧ RowP i m xs d
end
end Wr

set_option Elab.async false
set_option linter.all false
set_option maxRecDepth 100000
set_option maxHeartbeats 4000000
namespace Wr
open PySem PySem.Spec PyProof.Rows L2 Evl
/-! ### tuples made, their object known -/
abbrev tupO (its : Array Value) : Obj := { cls := .type "tuple", data := .seq its }
theorem frz_new {P : Program} {w : World} {H : Hp} {h : Heap} {xs : List V} {its : List Value} (hz : xs.length ≤ sizeLine) (r : Vals xs its) : ObjOk P w (upd H h.objs.size (.frz (tupO its.toArray) (.tup xs))) (h.push (tupO its.toArray)) h.objs.size (.frz (tupO its.toArray) (.tup xs)) :=
  ⟨Heap.get?_push_size _ rfl, hz, its, r, ⟨_, Heap.get?_push_size _ rfl, rfl, _, rfl⟩⟩
def rTupOf (K : PySem.W.Frag) : List V → Hp → VK → Prop := fun xs H Q => ∃ p ys, xs = [.ref p] ∧ SqL K H p ys ∧ ∀ l o, H l = none → o.dict = none → Q (.ref l) (upd H l (.frz o (.tup ys)))
theorem call_tupF {X : Cx} : CallR X (.type "tuple") (rTupOf X.K) := by
  intro pins s σ H xs us Q I r ⟨p, ys, e, hq, q⟩
  subst e
  obtain ⟨u, rfl, rx⟩ := vals1 r
  cases rx
  obtain ⟨its, r', pl, hz⟩ := I.list hq
  have hlen := r'.length
  refine call_tuple_list pl.isList (fun h' kp => ?_) (by simp only [List.size_toArray] <;> omega)
  have I1 : Inv X pins σ H { s with heap := h' } := I.kept (t' := s.toks) kp
  exact ⟨.ref h'.objs.size, _, I1.laid (t' := s.toks) (fun b o e => Heap.get?_push_of_some _ e) (Nat.le_refl _) (frz_new hz r'), rfl, q _ _ (I1.hok.fresh (Nat.le_refl _)) rfl⟩
def rSlF (K : PySem.W.Frag) : V → Option Int → Option Int → Hp → VK → Prop := fun x lo hi H Q => ∃ a xs, x = .ref a ∧ SqT K H a xs ∧ (xs = cutV xs lo hi → Q (.ref a) H) ∧ ∀ p o, H p = none → o.dict = none → Q (.ref p) (upd H p (.frz o (.tup (cutV xs lo hi))))
theorem sl_tupF {X : Cx} : SlR X (rSlF X.K) := by
  intro pins s σ H x v vl vu lo hi sl Q I rx hs pl pu ⟨a, xs, e, hx, q1, q2⟩
  subst e
  cases rx
  obtain ⟨its, r, ht, hz⟩ := I.tuple hx
  have hlen : its.toArray.size = xs.length := by rw [List.size_toArray]; exact r.length.symm
  refine ⟨"tuple", _, PyProof.Rows.slot_tuple_getitem.lookup, ht.typeIs, ?_⟩
  by_cases hw : HT.sIx xs.length 0 lo = 0 ∧ HT.sIx xs.length xs.length hi = xs.length
  · refine getItem_tuple_whole ht hs pl pu (by rw [hlen]; exact hw) ⟨.ref a, H, I, rfl, q1 ?_⟩
    unfold cutV
    rw [hw.1, hw.2]
    simp
  · refine HT.getItem_tuple_cut ht hs pl pu (by rw [hlen]; exact hw) ?_ (by rw [hlen]; exact hz)
    rw [hlen]
    exact ⟨.ref s.heap.objs.size, _, I.laid (t' := s.toks) (fun b ob q => Heap.get?_push_of_some _ q) (Nat.le_refl _) (frz_new (Nat.le_trans (cutV_length xs lo hi) hz) ((r.drop (HT.sIx xs.length 0 lo)).take (HT.sIx xs.length xs.length hi - HT.sIx xs.length 0 lo))), rfl, q2 _ _ (I.hok.fresh (Nat.le_refl _)) rfl⟩
def rCatF (K : PySem.W.Frag) : R2 := fun x y H Q => ∃ a b xs ys, x = .ref a ∧ y = .ref b ∧ SqT K H a xs ∧ SqT K H b ys ∧ xs.length + ys.length ≤ sizeLine ∧ (xs = [] → Q (.ref b) H) ∧ (ys = [] → Q (.ref a) H) ∧ ∀ p o, H p = none → o.dict = none → Q (.ref p) (upd H p (.frz o (.tup (xs ++ ys))))
theorem op_catF {X : Cx} : OpR X (binaryOp .Add) (rCatF X.K) := by
  intro pins s σ H x y v u Q I rx ry ⟨a, b, xs, ys, e1, e2, ha, hb, hz, q0, q1, q2⟩
  subst e1 e2
  cases rx
  cases ry
  obtain ⟨its, r1, p1, _⟩ := I.tuple ha
  obtain ⟨its2, r2, p2, _⟩ := I.tuple hb
  by_cases hx : xs = []
  · subst hx
    cases r1
    exact cat_tup0 p1 p2 ⟨.ref b, H, I, rfl, q0 rfl⟩
  · refine HT.cat_tup p1 p2 (fun z => hx (r1.nil_iff.mp z)) (fun z => ⟨.ref a, H, I, rfl, q1 (r2.nil_iff.mp z)⟩) (fun z => ?_) (by rw [← r1.length, ← r2.length]; exact hz)
    exact ⟨.ref s.heap.objs.size, _, I.laid (t' := s.toks) (fun b ob q => Heap.get?_push_of_some _ q) (Nat.le_refl _) (frz_new (by rw [List.length_append]; exact hz) (r1.append r2)), rfl, q2 _ _ (I.hok.fresh (Nat.le_refl _)) rfl⟩
/-! ### on data -/
def cutD (ds : List PyData) (lo hi : Option Int) : List PyData := (ds.drop (HT.sIx ds.length 0 lo)).take (HT.sIx ds.length ds.length hi - HT.sIx ds.length 0 lo)
theorem cut_dps {K : PySem.W.Frag} {H : Hp} {vs : List V} {ds : List PyData} (h : DdAll K H vs ds) (lo hi : Option Int) : DdAll K H (cutV vs lo hi) (cutD ds lo hi) := by
  unfold cutV cutD
  rw [dps_len h]
  exact dps_take _ (dps_drop _ h)
section
variable {K : PySem.W.Frag} {b : List Addr} {a : Addr} {n m k : Nat} {σ : L2.St} {H H' : Hp} {ta tb te : TE} {t : TA} {P : PyData → Prop} {d : PyData} {ds es : List PyData}
theorem dq_newT {p : Addr} {o : Obj} {vs : List V} (kn : Kn b H) (hp : H p = none) (ho : o.dict = none) (hd : DqAll K b H vs ds) : Dq K b (upd H p (.frz o (.tup vs))) (.ref p) (.tuple ds) := by
  have e := hid_new (o := HO.frz o (.tup vs)) (H := H) (kn.new hp)
  exact .tup (.inl (.inr ⟨_, e⟩)) (.inl ⟨_, _, e, ho⟩) (DqAll.up hd (Ex.new hp))
def EO (to : TO) (σ : L2.St) (H : Hp) (o : Option Int) : Prop := ∀ H1, Ex H H1 → ∀ Q : Option Int → Hp → Prop, (∀ H2, Ex H1 H2 → Q o H2) → to σ H1 Q
theorem eo_none : EO tNoPart σ H none := fun H1 x Q q => q H1 (Ex.refl H1)
theorem eo_some {i : Int} (h : ED K b te σ H (.int i)) : EO (tPart te) σ H (some i) := fun H1 x Q q => h H1 x _ fun v H2 x2 hv => ⟨i, dq_int hv, q H2 x2⟩
theorem ed_slT {tl th : TO} {lo hi : Option Int} (kn : Kn b H) (ha : ED K b ta σ H (.tuple ds)) (h1 : EO tl σ H lo) (h2 : EO th σ H hi) : ED K b (tSl (rSlF K) ta tl th) σ H (.tuple (cutD ds lo hi)) := fun H1 x1 Q q =>
  ha H1 x1 _ fun x H2 x2 hx => h1 H2 (x1.trans x2) _ fun H3 x3 => h2 H3 ((x1.trans x2).trans x3) _ fun H4 x4 => by
    have hx4 := (hx.up x3).up x4
    have hx5 := hx4
    cases hx5 with
    | tup g1 gn g2 =>
      have kn4 := kn.up (((x1.trans x2).trans x3).trans x4)
      refine ⟨_, _, rfl, ex_t hid_le g1, fun e => ?_, fun p o hp ho => ?_⟩
      · have e2 : DdAll K (hid b H4) _ (cutD ds lo hi) := cut_dps g2 lo hi
        rw [← e] at e2
        exact q _ H4 ((x2.trans x3).trans x4) (.tup g1 gn e2)
      · exact q _ _ (((x2.trans x3).trans x4).trans (Ex.new hp)) (dq_newT kn4 hp ho (cut_dps g2 lo hi))
/-- t + u, as a rule on data -/
theorem cat_data {x y : V} {Q : VK} (kn : Kn b H) (hx : Dq K b H x (.tuple ds)) (hy : Dq K b H y (.tuple es)) (hl : ds.length + es.length ≤ sizeLine) (q : ∀ v H2, Ex H H2 → Dq K b H2 v (.tuple (ds ++ es)) → Q v H2) : rCatF K x y H Q := by
  have hx' := hx
  have hy' := hy
  cases hx' with
  | tup g1 gn g2 =>
    cases hy' with
    | tup f1 fn f2 =>
      refine ⟨_, _, _, _, rfl, rfl, ex_t hid_le g1, ex_t hid_le f1, by rw [dps_len g2, dps_len f2]; exact hl, fun e => ?_, fun e => ?_, fun p o hp ho => ?_⟩
      · subst e
        have : ds = [] := by cases g2; rfl
        subst this
        exact q _ H (Ex.refl H) hy
      · subst e
        have : es = [] := by cases f2; rfl
        subst this
        rw [List.append_nil] at q
        exact q _ H (Ex.refl H) hx
      · exact q _ _ (Ex.new hp) (dq_newT kn hp ho (dps_app g2 f2))
theorem ed_catT (kn : Kn b H) (ha : ED K b ta σ H (.tuple ds)) (hb : ED K b tb σ H (.tuple es)) (hl : ds.length + es.length ≤ sizeLine) : ED K b (tOp (rCatF K) ta tb) σ H (.tuple (ds ++ es)) :=
  ed_op ha hb fun H1 x y Q x1 hx hy q => cat_data (kn.up x1) hx hy hl fun v H2 x2 hv => q v H2 x2 hv
theorem eg_catT {P1 P2 : PyData → Prop} (ha : a ∈ b) (h1 : EG K b a n k ta σ H P1) (h2 : EG K b a k m tb σ H P2) (hi : ∀ d e, P1 d → P2 e → ∃ ds es, d = .tuple ds ∧ e = .tuple es ∧ ds.length + es.length ≤ sizeLine ∧ P (.tuple (ds ++ es))) : EG K b a n m (tOp (rCatF K) ta tb) σ H P :=
  eg_op ha h1 h2 fun d e H1 x y Q p1 p2 _ kn1 hx hy q => by
    obtain ⟨ds, es, rfl, rfl, hl, p⟩ := hi d e p1 p2
    exact cat_data kn1 hx hy hl fun v H2 x2 hv => q v _ H2 x2 hv p
theorem eg_lst {R : List PyData → Prop} (h : EGA K b a n m t σ H R) (hl : ∀ ds, R ds → ds.length ≤ sizeLine ∧ P (.list ds)) : EG K b a n m (tLst t) σ H P := fun H1 x1 kn bg Q q =>
  h H1 x1 kn bg _ fun vs ds H2 x2 b2 hvs r => ⟨by rw [dps_len hvs]; exact (hl ds r).1, fun p hp => q _ (.list ds) _ (x2.trans (exb (Ex.new hp))) (b2.ex (Ex.new hp)) (.lst (.inl (.inl (hid_new ((x2.kn kn b2).new hp)))) (hvs.up (Ex.new hp))) (hl ds r).2⟩
/-- tuple(list) -/
theorem eg_tupOf {P1 : PyData → Prop} (h : EG K b a n m ta σ H P1) (hi : ∀ d, P1 d → ∃ ds, d = .list ds ∧ P (.tuple ds)) : EG K b a n m (tCB (rTupOf K) (tCons ta tNil)) σ H P := fun H1 x1 kn bg Q q =>
  h H1 x1 kn bg _ fun v d H2 x2 b2 hv p1 => by
    obtain ⟨ds, rfl, p⟩ := hi d p1
    cases hv with
    | lst g1 g2 =>
      refine ⟨_, _, rfl, ex_l hid_le g1, fun l o hl ho => ?_⟩
      exact q _ (.tuple ds) _ (x2.trans (exb (Ex.new hl))) (b2.ex (Ex.new hl)) (dq_newT (x2.kn kn b2) hl ho g2) p
/-- a list's beginning, how much is drawn -/
theorem eg_slL {P1 P2 : PyData → Prop} (ha : a ∈ b) (h1 : EG K b a n k ta σ H P1) (h2 : EG K b a k m te σ H P2) (hi : ∀ d e, P1 d → P2 e → ∃ ds i, d = .list ds ∧ e = .int i ∧ P (.list (cutD ds none (some i)))) : EG K b a n m (tSl (rSlL K) ta tNoPart (tPart te)) σ H P := fun H1 x1 kn bg Q q =>
  h1 H1 x1 kn bg _ fun x d H2 x2 b2 hx p1 => h2 H2 (x1.trans x2) (x2.kn kn b2) b2 _ fun y e H3 x3 b3 hy p2 => by
    obtain ⟨ds, i, rfl, rfl, p⟩ := hi d e p1 p2
    have hx3 := hx.upB ha x3
    cases hx3 with
    | lst g1 g2 =>
      have kn3 := x3.kn (x2.kn kn b2) b3
      exact ⟨i, dq_int hy, _, _, rfl, ex_l hid_le g1, fun r hr => q _ _ _ ((x2.trans x3).trans (exb (Ex.new hr))) (b3.ex (Ex.new hr)) (.lst (.inl (.inl (hid_new (kn3.new hr)))) (DqAll.up (cut_dps g2 none (some i)) (Ex.new hr))) p⟩
/-- int(truth) -/
def rInt1 : List V → Hp → VK → Prop := fun xs H Q => (∃ i, xs = [.int i] ∧ Q (.int i) H) ∨ ∃ k, xs = [.bl k] ∧ Q (.int (if k then 1 else 0)) H
theorem call_intB {X : Cx} : CallR X (.type "int") rInt1 := call_int1
theorem ed_intB {c : Bool} (ha : ED K b ta σ H (.bool c)) : ED K b (tCB rInt1 (tCons ta tNil)) σ H (.int (if c then 1 else 0)) := fun H1 x1 Q q =>
  ha H1 x1 _ fun v H2 x2 hv => .inr ⟨c, by rw [dq_bl hv], q _ H2 x2 (.int _)⟩
/-! ### hiding one more -/
theorem hide_ex {D : Addr} (hD : H D = none) : Ex (hid b H) (hid (D :: b) H) := fun c o h => by
  obtain ⟨h1, h2⟩ := hid_some h
  have : c ∉ D :: b := fun z => by
    rcases List.mem_cons.mp z with rfl | z
    · rw [hD] at h2; cases h2
    · exact h1 z
  rw [hid_ne this]
  exact h2
theorem Dq.hide {D : Addr} {v : V} (h : Dq K b H v d) (hD : H D = none) : Dq K (D :: b) H v d := dp_ex (hide_ex hD) d v h
theorem show_ex {D : Addr} : Ex (hid (D :: b) H) (hid b H) := fun c o h => by
  obtain ⟨h1, h2⟩ := hid_some h
  rw [hid_ne fun z => h1 (List.mem_cons_of_mem _ z)]
  exact h2
theorem put_ex {D : Addr} {o : HO} : Ex (hid (D :: b) H) (hid (D :: b) (upd H D o)) := fun c u h => by
  obtain ⟨h1, h2⟩ := hid_some h
  rw [hid_ne h1, upd_ne fun z => h1 (by rw [z]; exact List.mem_cons_self)]
  exact h2
/-- [.. for i in range(n)], each item drawn -/
theorem eg_lcR {i0 c N : Nat} {R : Nat → PyData → Prop} (ha : a ∈ b) (hcount : ∀ H1, ExB a H H1 → Kn b H1 → ED K b ta σ H1 (.int (N : Nat))) (hN : N ≤ 1000)
    (he : ∀ (D : Addr) (i f : Nat) (H0 H1 : Hp), i < N → ExB a H H0 → H0 D = none → ExB a H0 H1 → EG K (D :: b) a (f + c) f te ((wipe σ [i0]).set i0 (some (.int (i : Nat)))) H1 (R i)) :
    EG K b a (m + N * c) m (tLc (iRng1 (tCons ta tNil)) (gName i0) tYes te [i0]) σ H (fun d => ∃ ds, d = .list ds ∧ ds.length = N ∧ ∀ i x, ds[i]? = some x → R i x) := fun H1 x1 kn bg Q q =>
  hcount H1 x1 kn H1 (Ex.refl H1) _ fun v H2 x2 hv => by
    have e := dq_int hv
    subst e
    have hsl : sizeLine = 16777216 := sizeLine_eq
    have kn2 := kn.up x2
    have bg2 := bg.ex x2
    refine ⟨(N : Nat), rfl, by omega, by omega, fun D hD => ?_⟩
    rw [show ((N : Nat) : Int).toNat = N from rfl]
    have hDa : D ≠ a := fun z => bg2.there (z ▸ hD)
    refine lc_range (Pv := fun i H3 => ExB a H2 H3 ∧ Kn (D :: b) H3 ∧ Bag a (m + (N - i) * c) H3 ∧ ∃ acc ds, H3 D = some (.lst acc) ∧ DqAll K (D :: b) H3 acc ds ∧ ds.length = i ∧ ∀ j x, ds[j]? = some x → R j x) ?_ ?_ ?_
    · refine ⟨exb (Ex.new hD), fun z hz => ?_, ?_, [], [], upd_same, .nil, rfl, fun j x h => by simp at h⟩
      · rcases List.mem_cons.mp hz with rfl | hz
        · rw [upd_same]; intro q; cases q
        · rw [upd_ne (fun z' : z = D => kn2.new hD (by rw [← z']; exact hz))]
          exact kn2 z hz
      · rw [Nat.sub_zero]
        exact bg2.ex (Ex.new hD)
    · intro i H3 hi ⟨x3, k3, b3, acc, ds, hd3, hacc, hlen, hR⟩
      refine ⟨wipe_set1, ?_⟩
      refine et_yes (H := H3) _ (Ex.refl _) _ fun H4 x4 => ?_
      rw [if_pos rfl]
      have eN : N - i = (N - (i + 1)) + 1 := by omega
      have bb : Bag a ((m + (N - (i + 1)) * c) + c) H4 := (b3.ex x4).le (by rw [eN, Nat.add_mul]; omega)
      rw [show (0 + (i : Int)) = ((i : Nat) : Int) from Int.zero_add _]
      refine he D i (m + (N - (i + 1)) * c) H2 H4 hi (x1.trans (exb x2)) hD (x3.trans (exb x4)) H4 (ExB.refl a H4) (k3.up x4) bb _ fun y d H5 x5 b5 hy r => ?_
      have hd5 : H5 D = some (.lst acc) := x5 _ _ hDa (x4 _ _ hd3)
      have hm : a ∈ D :: b := List.mem_cons_of_mem _ ha
      refine ⟨acc, hd5, ?_, ?_, ?_, ?_, acc ++ [y], ds ++ [d], upd_same, ?_, ?_, ?_⟩
      · rw [dps_len hacc]; omega
      · intro z o hz h
        by_cases e : z = D
        · subst e; rw [hD] at h; cases h
        · rw [upd_ne e]
          exact x5 _ _ hz (x4 _ _ (x3 _ _ hz h))
      · intro z hz
        by_cases e : z = D
        · subst e; rw [upd_same]; intro q; cases q
        · rw [upd_ne e]
          exact x5.kn (k3.up x4) b5 z hz
      · obtain ⟨g, x, cc, h1, r'⟩ := b5
        exact ⟨g, x, cc, by rw [upd_ne (Ne.symm hDa)]; exact h1, r'⟩
      · exact dps_ex put_ex _ _ (dps_app (DqAll.upB hm (DqAll.up hacc x4) x5) (.cons hy .nil))
      · rw [List.length_append, hlen]; rfl
      · intro j x hj
        by_cases hjl : j < ds.length
        · rw [List.getElem?_append_left hjl] at hj
          exact hR j x hj
        · rw [List.getElem?_append_right (by omega)] at hj
          have : j - ds.length = 0 := by
            by_cases hz : j - ds.length = 0
            · exact hz
            · rw [List.getElem?_eq_none (by rw [List.length_singleton]; omega)] at hj
              cases hj
          rw [this] at hj
          have ex : d = x := Option.some.inj hj
          have ej : j = i := by omega
          rw [ej, ← ex]
          exact r
    · intro H3 ⟨x3, k3, b3, acc, ds, hd3, hacc, hlen, hR⟩
      rw [Nat.sub_self, Nat.zero_mul, Nat.add_zero] at b3
      refine q _ (.list ds) H3 ((exb x2).trans x3) b3 (.lst (.inl (.inl ?_)) (dps_ex show_ex _ _ hacc)) ⟨ds, rfl, hlen, hR⟩
      rw [hid_ne (kn2.new hD)]
      exact hd3
end
end Wr

set_option Elab.async false
set_option linter.all false
set_option maxRecDepth 100000
set_option maxHeartbeats 4000000
namespace Wr
open PySem PySem.Spec PyProof.Rows L2 Evl
abbrev NP3 : List Str := ["_law_bag_here", "_law_great", "_law_called", "_law_names_here", "_law_found", "_law_name", "_law_many", "_law_rows", "_law_at"]
def PartP (xs : List Str) (x : Str) (p : PyData) : Prop := ∃ ns rs, p = .tuple [.str x, .tuple ns, .tuple rs] ∧ namesD (.tuple ns) = true ∧ rowsD (.tuple rs) xs = true ∧ okL 60 3 p = true ∧ szD p ≤ 120600
def ProgP (d : PyData) : Prop := progD d = true ∧ okL 60 4 d = true ∧ szD d ≤ 1000000
theorem cut0 (ys : List PyData) {i : Int} (h0 : 0 ≤ i) : cutD ys none (some i) = ys.take i.toNat := by
  unfold cutD
  rw [HT.sIx_none, List.drop_zero, Nat.sub_zero]
  have e : i = ((i.toNat : Nat) : Int) := (Int.toNat_of_nonneg h0).symm
  have e2 : HT.sIx ys.length ys.length (some i) = min i.toNat ys.length := by
    rw [e]
    exact HT.sIx_nat ys.length ys.length i.toNat
  rw [e2]
  by_cases h : i.toNat ≤ ys.length
  · rw [Nat.min_eq_left h]
  · rw [Nat.min_eq_right (by omega), List.take_of_length_le (Nat.le_refl _), List.take_of_length_le (by omega)]
theorem rows_of {rs : List PyData} {xs : List Str} {N : Nat} (hl : rs.length = N) (h1 : 1 ≤ N) (h2 : N ≤ 60) (hR : ∀ (i : Nat) (x : PyData), rs[i]? = some x → RowP i N xs x) : rowsD (.tuple rs) xs = true ∧ okL 60 2 (.tuple rs) = true ∧ szD (.tuple rs) ≤ 120123 := by
  have mem : ∀ d ∈ rs, ∃ i : Nat, RowP i N xs d := fun d hd => by
    obtain ⟨i, hi, e⟩ := List.mem_iff_getElem.mp hd
    exact ⟨i, hR i d (by rw [List.getElem?_eq_getElem hi, e])⟩
  refine ⟨?_, okL_tup (by omega) fun d hd => (mem d hd).elim fun i p => p.2.1, ?_⟩
  · show ((decide (1 ≤ rs.length) && decide (rs.length ≤ 60)) && ((List.range rs.length).all fun i => rowD (rs.getD i .none) i rs.length xs)) = true
    rw [hl, decide_eq_true h1, decide_eq_true h2]
    simp only [Bool.true_and]
    rw [List.all_eq_true]
    intro i hi
    have hi' : i < rs.length := by rw [hl]; exact List.mem_range.mp hi
    have := (hR i rs[i] (List.getElem?_eq_getElem hi')).1
    rw [List.getD_eq_getElem?_getD, List.getElem?_eq_getElem hi', Option.getD_some]
    exact this
  · rw [szD_tup]
    have := szAll_le (c := 2000) (xs := rs) fun d hd => (mem d hd).elim fun i p => p.2.2
    rw [hl] at this
    have h3 : N * (2000 + 2) ≤ 60 * 2002 := Nat.mul_le_mul_right _ h2
    omega
theorem part_of {x : Str} {ys xs : List Str} {rs : List PyData} {j : Nat} (hx : nameS x = true) (hy : ys.all nameS = true) (hn : ys.Nodup) (hj : j ≤ 3) (hr : rowsD (.tuple rs) xs = true ∧ okL 60 2 (.tuple rs) = true ∧ szD (.tuple rs) ≤ 120123) :
    PartP xs x (.tuple [.str x, .tuple ((ys.map PyData.str).take j), .tuple rs]) := by
  rw [← List.map_take]
  have hlen : (ys.take j).length ≤ 3 := by
    rw [List.length_take]
    omega
  have hall : ∀ y ∈ ys.take j, nameS y = true := fun y h => List.all_eq_true.mp hy y (List.mem_of_mem_take h)
  have hnd : (ys.take j).Nodup := hn.sublist (List.take_sublist _ _)
  generalize ys.take j = zs at hlen hall hnd
  have okz : okL 60 1 (.tuple (zs.map .str)) = true := okL_tup (by rw [List.length_map]; omega) fun d hd => by
    obtain ⟨y, h, rfl⟩ := List.mem_map.mp hd
    exact okL_str (name_strOk (hall y h)) (by have := name_len (hall y h); omega)
  have szz : szD (.tuple (zs.map .str)) ≤ 300 := by
    rw [szD_tup]
    have := szAll_le (c := 82) (xs := zs.map PyData.str) fun d hd => by
      obtain ⟨y, h, rfl⟩ := List.mem_map.mp hd
      rw [szD_str]
      have := name_len (hall y h)
      omega
    rw [List.length_map] at this
    have h3 : zs.length * (82 + 2) ≤ 3 * 84 := Nat.mul_le_mul_right _ hlen
    omega
  refine ⟨_, _, rfl, ?_, hr.1, ?_, ?_⟩
  · show (decide ((zs.map PyData.str).length ≤ 3) && ((zs.map PyData.str).all nameD && unlikeS (strsOf (zs.map .str)))) = true
    rw [List.length_map, decide_eq_true hlen, strsOf_map]
    have e1 : (zs.map PyData.str).all nameD = true := List.all_eq_true.mpr fun d hd => by
      obtain ⟨y, h, rfl⟩ := List.mem_map.mp hd
      exact hall y h
    rw [e1]
    unfold unlikeS
    rw [decide_eq_true ((uq_len_iff zs).mpr hnd)]
    rfl
  · refine okL_tup (by show 3 ≤ 60; decide) fun d hd => ?_
    simp only [List.mem_cons, List.not_mem_nil, or_false] at hd
    rcases hd with rfl | rfl | rfl
    · exact okL_str (name_strOk hx) (by have := name_len hx; omega)
    · exact okL_up (Nat.le_refl _) 1 2 _ (by decide) okz
    · exact hr.2.1
  · rw [szD_tup]
    simp only [szAll]
    have h1 : szD (.str x) ≤ 82 := by
      rw [szD_str]
      have := name_len hx
      omega
    have h2 := hr.2.2
    omega
theorem prog_of {ds : List PyData} {xs : List Str} (hl : ds.length = xs.length) (h1 : 1 ≤ xs.length) (h8 : xs.length ≤ 8) (hx : xs.all nameS = true) (hn : xs.Nodup) (hP : ∀ (j : Nat) (p : PyData), ds[j]? = some p → ∃ x, xs[j]? = some x ∧ PartP xs x p) : ProgP (.tuple ds) := by
  have mem : ∀ d ∈ ds, ∃ x ∈ xs, PartP xs x d := fun d hd => by
    obtain ⟨i, hi, e⟩ := List.mem_iff_getElem.mp hd
    obtain ⟨x, h1, h2⟩ := hP i d (by rw [List.getElem?_eq_getElem hi, e])
    exact ⟨x, List.mem_of_getElem? h1, h2⟩
  have hf : ds.map fst = xs.map .str := by
    apply List.ext_getElem?
    intro i
    rw [List.getElem?_map, List.getElem?_map]
    by_cases hi : i < ds.length
    · obtain ⟨x, g1, ns, rs, e, _⟩ := hP i ds[i] (List.getElem?_eq_getElem hi)
      rw [List.getElem?_eq_getElem hi, g1, e]
      rfl
    · rw [List.getElem?_eq_none (by omega), List.getElem?_eq_none (by omega)]
      rfl
  refine ⟨?_, okL_tup (by omega) fun d hd => (mem d hd).elim fun x p => ?_, ?_⟩
  · rw [prog_two, hf, strsOf_map, hl, decide_eq_true (show 1 ≤ xs.length ∧ xs.length < 9 by omega)]
    have e1 : ds.all headed2D = true := List.all_eq_true.mpr fun d hd => by
      obtain ⟨x, hm, ns, rs, rfl, _⟩ := mem d hd
      exact List.all_eq_true.mp hx x hm
    have e2 : (ds.all fun p => partD p xs) = true := List.all_eq_true.mpr fun d hd => by
      obtain ⟨x, hm, ns, rs, rfl, h3, h4, _⟩ := mem d hd
      show (namesD (.tuple ns) && rowsD (.tuple rs) xs) = true
      rw [h3, h4]
      rfl
    have e3 : unlikeS xs = true := decide_eq_true ((uq_len_iff xs).mpr hn)
    rw [e1, e2, e3]
    rfl
  · obtain ⟨_, ns, rs, rfl, _, _, h5, _⟩ := p
    exact h5
  · rw [szD_tup]
    have := szAll_le (c := 120600) (xs := ds) fun d hd => by
      obtain ⟨x, hm, ns, rs, rfl, _, _, _, h6⟩ := mem d hd
      exact h6
    rw [hl] at this
    have h3 : xs.length * (120600 + 2) ≤ 8 * 120602 := Nat.mul_le_mul_right _ h8
    omega
section
variable {K : PySem.W.Frag} {b : List Addr} {a : Addr} {n m k : Nat} {σ : L2.St} {H H' : Hp} {ta te : TE} {ts : TS} {D : Ends}
theorem g_setG {i : Nat} {P1 : PyData → Prop} (h : EG K b a n k te σ H P1) (kn : Kn b H) (bg : Bag a n H) (kk : ∀ v d H', ExB a H H' → Bag a k H' → Kn b H' → Dq K b H' v d → P1 d → ts D (σ.set i (some v)) H') : tSeq (tAsg te (gName i)) ts D σ H :=
  h H (ExB.refl a H) kn bg _ fun v d H' x bg' hv p => kk v d H' x bg' (x.kn kn bg') hv p
/-- a number drawn, or a written one -/
theorem eg_pick {c : Bool} {u w : Int} {te : TE} (ha : a ∈ b) (hb : σ[0]? = some (some (.ref a))) (h0 : 0 < u) (h1 : u < 1073741824) (ht : ∀ H1, ExB a H H1 → Kn b H1 → ED K b te σ H1 (.bool c)) :
    EG K b a (n + 1) n (tOp (rIxL K) (tLst (tCons (tOp (rI0 fun i j => .int (i + j)) (tC (.int 1)) (tCall (spTake K) [] E0 (tCons (tVar 0) (tCons (tC (.int u)) tNil)))) (tCons (tC (.int w)) tNil))) (tCB rInt1 (tCons te tNil))) σ H (fun d => ∃ r, d = .int r ∧ ((1 ≤ r ∧ r ≤ u) ∨ r = w)) :=
  eg_ixL ha (eg_lst (P := fun d => ∃ r, d = .list [.int r, .int w] ∧ 1 ≤ r ∧ r ≤ u) (ega_cons (P := fun d => ∃ r, d = .int r ∧ 1 ≤ r ∧ r ≤ u) ha (eg_I0 ha (eg_pure (P := (· = .int 1)) (fun _ _ _ => ed_int) rfl) (eg_take ha hb h0 h1) (fun d e hd ⟨r, er, r0, r1⟩ => ⟨1, r, hd, er, 1 + r, rfl, by omega, by omega⟩)) (ega_cons (P := (· = .int w)) ha (eg_pure (fun _ _ _ => ed_int) rfl) ega_nil)) (fun ds ⟨d, r', e, ⟨r, er, r0, r1⟩, d', r'', e', p', e''⟩ => by
      subst e e' er p' e''
      exact ⟨by show 2 ≤ sizeLine; decide, r, rfl, r0, r1⟩)) (eg_pure (P := (· = .int (if c then 1 else 0))) (fun H1 x1 kn1 => ed_intB (ht H1 x1 kn1)) rfl) (fun d e ⟨r, er, r0, r1⟩ he => by
      subst er he
      cases c with
      | false => exact ⟨_, 0, .int r, rfl, rfl, rfl, r, rfl, .inl ⟨r0, r1⟩⟩
      | true => exact ⟨_, 1, .int w, rfl, rfl, rfl, w, rfl, .inr rfl⟩)
end
section
variable {P : Program} {w : World} {K : PySem.W.Frag} {mg : Str → Option Value} {base : Heap} {f g g2 g3 g4 : Addr} {fd gd gd2 gd3 gd4 : FuncData}
end
end Wr

set_option Elab.async false
set_option linter.all false
set_option maxRecDepth 100000
set_option maxHeartbeats 4000000
namespace Wr
open PySem PySem.Spec PyProof.Rows L2 Evl
structure Blt2 (mg : Str → Option Value) : Prop where
  abs : mg "abs" = none
  max : mg "max" = none
  min : mg "min" = none
  repr : mg "repr" = none
abbrev NB : List Str := ["_law_script", "_law_at", "_law_cell", "_law_great"]
theorem sc_bag : FnScope NB ["_law_script", "_law_at"] (defScope s_bag) := ⟨rfl, rfl, rfl, by decide +kernel, rfl, by decide +kernel, by decide +kernel⟩
/-- a new bag, out of the script and a place -/
def spBag (K : PySem.W.Frag) : Sp := fun vs H Q _ => ∃ (b : List Addr) (ns : List Int) (k : Int), Kn b H ∧ DqAll K b H vs [.list (ns.map PyData.int), .int k] ∧ 0 ≤ k ∧ k < 100 ∧ ∀ p H', H p = none → Ex H H' → Bag p 1000000 H' → Q (.ref p) H'
def rAbs : List V → Hp → VK → Prop := fun xs H Q => ∃ i, xs = [.int i] ∧ Q (.int (if i < 0 then -i else i)) H
theorem call_absB {X : Cx} : CallR X (.builtin "abs") rAbs := call_abs
section
variable {K : PySem.W.Frag} {b : List Addr} {σ : L2.St} {H H' : Hp} {ta tb te : TE} {t : TA} {ds es : List PyData} {D : Ends} {ts : TS}
theorem ed_abs {i : Int} (ha : ED K b ta σ H (.int i)) : ED K b (tCB rAbs (tCons ta tNil)) σ H (.int (if i < 0 then -i else i)) := fun H1 x1 Q q =>
  ha H1 x1 _ fun v H2 x2 hv => ⟨i, by rw [dq_int hv], q _ H2 x2 (.int _)⟩
/-- x = [..], the list known -/
theorem g_lst {i : Nat} (kn : Kn b H) (hd : EA K b t σ H ds) (hl : ds.length ≤ sizeLine) (k : ∀ p vs H', H p = none → Ex H H' → H' p = some (.lst vs) → DqAll K b H' vs ds → ts D (σ.set i (some (.ref p))) H') : tSeq (tAsg (tLst t) (gName i)) ts D σ H :=
  hd H (Ex.refl H) _ fun vs H1 x1 hv => ⟨by rw [dps_len hv]; exact hl, fun p hp => k p vs _ (by
    cases q : H p with
    | none => rfl
    | some o => rw [x1 _ _ q] at hp; cases hp) (x1.trans (Ex.new hp)) upd_same (DqAll.up hv (Ex.new hp))⟩
/-- x = x + [..], both lists known -/
theorem g_cat {i : Nat} {p : Addr} {vs : List V} (kn : Kn b H) (hs : σ[i]? = some (some (.ref p))) (hp : H p = some (.lst vs)) (hv : DqAll K b H vs ds) (he : EA K b t σ H es) (hl : ds.length + es.length ≤ sizeLine) (k : ∀ p' us H', H p' = none → Ex H H' → H' p' = some (.lst us) → DqAll K b H' us (ds ++ es) → ts D (σ.set i (some (.ref p'))) H') : tSeq (tAsg (tOp rCat (tVar i) (tLst t)) (gName i)) ts D σ H :=
  ⟨.ref p, hs, he H (Ex.refl H) _ fun ws H1 x1 hw => ⟨by rw [dps_len hw]; omega, fun p1 hp1 => ⟨p, p1, vs, ws, rfl, rfl, Ex.new hp1 _ _ (x1 _ _ hp), upd_same, by rw [dps_len hv, dps_len hw]; exact hl, fun p2 hp2 => by
    have x2 := (Ex.new (o := HO.lst ws) hp1).trans (Ex.new (o := HO.lst (vs ++ ws)) hp2)
    refine k p2 (vs ++ ws) _ ?_ (x1.trans x2) upd_same (DqAll.up (dps_app (DqAll.up hv x1) hw) x2)
    cases q : H p2 with
    | none => rfl
    | some o => rw [Ex.new hp1 _ _ (x1 _ _ q)] at hp2; cases hp2⟩⟩⟩
end
section
variable {P : Program} {w : World} {K : PySem.W.Frag} {mg : Str → Option Value} {base : Heap} {f g g2 : Addr} {fd gd gd2 : FuncData}
theorem ok_bag (D : Def K mg "_law_bag" s_bag ["_law_script", "_law_at"] f fd) (B : Blt mg) (B2 : Blt2 mg) : FnOk P w K mg base CX0 1 f fd ["_law_script", "_law_at"] (spBag K) := by
  refine D.F.ok sc_bag (fun vs H Q E ⟨b, ns, k, _, hd, _⟩ => by rw [dps_len hd]; rfl) (fun cdv A outer s H vs Q E hr h => ?_)
  obtain ⟨b, ns, k, kn, hd, k0, k1, q⟩ := h
  obtain ⟨v, v2, d, d2, rfl, ed, h1, h2⟩ := two_of hd rfl
  cases ed
  have e2 := dq_int h2
  subst e2
  refine ⟨_, pss_cons (ps_set (i := 2) sc_bag.nd rfl (Or.inl rfl) pe_int)
    (pss_cons (ps_if (pt_cmpR op_lt (pv 1) (pe_callB call_lenD1 rfl B.len bb_len (pa_cons (pv 0) pa_nil)) (nomark _)) (pss_one (ps_set (i := 2) sc_bag.nd rfl (Or.inl rfl) (pe_ix ix_list (pv 0) (pv 1) (fun _ _ => rfl)))) pss_nil)
    (pss_cons (ps_set (i := 3) sc_bag.nd rfl (Or.inl rfl) (pe_callB call_absB rfl B2.abs bb_abs (pa_cons (pv 2) pa_nil)))
    (pss_cons (ps_if (pt_cmpR op_lt (pv 3) (pe_op op_pow pe_int pe_int) (nomark _)) (pss_one (ps_set (i := 3) sc_bag.nd rfl (Or.inl rfl) pe_int)) pss_nil)
    (pss_one (ps_ret (pe_lst (pa_cons (pv 3) (pa_cons (pe_op op_add (pe_op op_add (pe_op op_mod (pv 2) pe_int) (pe_op op_mul pe_int (pv 1))) pe_int) (pa_cons pe_int pa_nil))))))))), ?_⟩
  have gt : ∀ (c : Int) (H1 : Hp), Ex H H1 → ∀ gg : Int, 0 ≤ gg → tRet (tLst (tCons (tVar 3) (tCons (tOp (rI0 fun i j => .int (i + j)) (tOp (rI0 fun i j => .int (i + j)) (tOp (rI (fun _ j => 0 < j) fun i j => .int (i % j)) (tVar 2) (tC (.int 1000000000000000003))) (tOp (rI CMul fun i j => .int (i * j)) (tC (.int 104729)) (tVar 1))) (tC (.int 17))) (tCons (tC (.int 0)) tNil)))) { nx := fun _ H' => Q .non H', rt := Q } [some v, some (.int k), some (.int c), some (.int gg)] H1 := fun c H1 x1 gg hg => by
    have m0 := Int.emod_nonneg c (show (1000000000000000003 : Int) ≠ 0 by decide)
    have m1 := Int.emod_lt_of_pos c (show (0 : Int) < 1000000000000000003 by decide)
    unfold tRet tLst
    refine (ea_cons (K := K) (b := b) (σ := [some v, some (.int k), some (.int c), some (.int gg)]) (ed_var (i := 3) (d := .int gg) rfl (.int gg)) (ea_cons (ed_add (ed_add (ed_mod (ed_var (i := 2) (d := .int c) rfl (.int c)) (ed_int (i := 1000000000000000003)) (by decide)) (ed_mul (ed_int (i := 104729)) (ed_var (i := 1) (d := .int k) rfl (.int k)) (.inl (by decide)))) (ed_int (i := 17))) (ea_cons (ed_int (i := 0)) ea_nil))) H1 (Ex.refl H1) _ fun us H2 x2 hu => ?_
    cases hu with
    | cons a1 hu =>
    cases hu with
    | cons a2 hu =>
    cases hu with
    | cons a3 hu =>
    cases hu
    have e1 := dq_int a1
    have e2 := dq_int a2
    have e3 := dq_int a3
    subst e1 e2 e3
    refine ⟨by show 3 ≤ sizeLine; decide, fun p hp => q p _ ?_ ((x1.trans x2).trans (Ex.new hp)) ⟨gg, _, 0, upd_same, hg, by omega, by omega, by omega, by omega⟩⟩
    cases z : H p with
    | none => rfl
    | some o => rw [(x1.trans x2) _ _ z] at hp; cases hp
  have pw : ∀ {σ'} {H'}, ED K b (tOp (rI CPow fun i j => .int (i ^ j.toNat)) (tC (.int 10)) (tC (.int 18))) σ' H' (.int 1000000000000000000) := fun {_ _} => ed_I ed_int ed_int ⟨by decide, by decide, by decide⟩ fun _ => .int _
  have rest : ∀ (c : Int) (H1 : Hp), Ex H H1 → tSeq (tAsg (tCB rAbs (tCons (tVar 2) tNil)) (gName 3)) (tSeq (tIfS (tTest (tOp (rI0 fun i j => .bl (decide (i < j))) (tVar 3) (tOp (rI CPow fun i j => .int (i ^ j.toNat)) (tC (.int 10)) (tC (.int 18))))) (tAsg (tC (.int 0)) (gName 3)) tNext)
      (tRet (tLst (tCons (tVar 3) (tCons (tOp (rI0 fun i j => .int (i + j)) (tOp (rI0 fun i j => .int (i + j)) (tOp (rI (fun _ j => 0 < j) fun i j => .int (i % j)) (tVar 2) (tC (.int 1000000000000000003))) (tOp (rI CMul fun i j => .int (i * j)) (tC (.int 104729)) (tVar 1))) (tC (.int 17))) (tCons (tC (.int 0)) tNil))))))
      { nx := fun _ H' => Q .non H', rt := Q } [some v, some (.int k), some (.int c), none] H1 := fun c H1 x1 => by
    refine g_set (ed_abs (K := K) (b := b) (ed_var (i := 2) (d := .int c) rfl (.int c))) fun v3 H2 x2 hv3 => ?_
    have e3 := dq_int hv3
    subst e3
    have h0 : (0 : Int) ≤ (if c < 0 then -c else c) := by split <;> omega
    generalize (if c < 0 then -c else c) = gg at h0
    refine (et_t (ed_lt (K := K) (b := b) (ed_var (i := 3) (d := .int gg) rfl (.int gg)) pw)) H2 (Ex.refl H2) _ fun H3 x3 => ?_
    split
    · exact gt c H3 ((x1.trans x2).trans x3) 0 (Int.le_refl 0)
    · exact gt c H3 ((x1.trans x2).trans x3) gg h0
  have hl := ed_len (K := K) (b := b) (σ := [some v, some (V.int k), some (.int 0), none]) (H := H) (ed_var (i := 0) rfl h1) (.inr (.inl rfl)) (fun y e => by cases e)
  refine (et_t (ed_lt (K := K) (b := b) (ed_var (i := 1) (d := .int k) rfl (.int k)) hl)) H (Ex.refl H) _ fun H3 x3 => ?_
  split
  · rename_i hc
    have hc' : k < ((lenD (.list (ns.map .int)) : Nat) : Int) := of_decide_eq_true hc
    have hk : k.toNat < ns.length := by
      have : (lenD (.list (ns.map PyData.int))) = ns.length := List.length_map ..
      rw [this] at hc'
      omega
    have hat : atI (ns.map PyData.int) k = some (.int ns[k.toNat]) := by
      have e : ((k.toNat : Nat) : Int) = k := Int.toNat_of_nonneg k0
      have := atI_nat (xs := ns.map PyData.int) (j := k.toNat) (v := .int ns[k.toNat]) (by rw [List.getElem?_map, List.getElem?_eq_getElem hk]; rfl)
      rw [e] at this
      exact this
    refine (ed_ixL (K := K) (b := b) (ed_var (i := 0) rfl (Dq.up h1 x3)) (ed_var (i := 1) (d := .int k) rfl (.int k)) hat) H3 (Ex.refl H3) _ fun v2 H4 x4 hv2 => ?_
    have e2 := dq_int hv2
    subst e2
    exact rest _ H4 (x3.trans x4)
  · exact rest 0 H3 x3
end
end Wr

set_option Elab.async false
set_option linter.all false
set_option maxRecDepth 100000
set_option maxHeartbeats 4000000
namespace Wr
open PySem PySem.Spec PyProof.Rows L2 Evl
/-! ### errors whose context is None; what is no program -/
theorem sc_check : FnScope ["thing"] ["thing"] (defScope s_check) := ⟨rfl, rfl, rfl, by decide +kernel, rfl, by decide +kernel, by decide +kernel⟩
section
variable {P : Program} {w : World} {K : PySem.W.Frag} {mg : Str → Option Value} {base : Heap}
theorem okN {x qual : Str} {st : Stmt} {f : Addr} {fd : FuncData} {N ps : List Str} {k : Nat} {sp : Sp} (F : Fun K x qual st f fd) (S : FnScope N ps (defScope st)) (len : ∀ vs H Q E, sp vs H Q E → vs.length = ps.length)
    (hbody : ∀ (cdv : Value) (A : Around) (outer : List Env) (s : Shared) (H : Hp) (vs : List V) (Q : VK) (E : XK), Room k (A.deeper (envOfC qual (defScope st) s.heap.objs.size f cdv)) → sp vs H Q E →
      ∃ t, PSs (cxOf (L2N.CX P w) P w K mg base N qual (defScope st) f cdv A outer s H E) (defBody st) t ∧ t { nx := fun _ H' => Q .non H', rt := Q } (start N vs) H) : FnOk P w K mg base (L2N.CX P w) (k + 1) f fd ps sp := by
  obtain ⟨oc, od, kV, doc, pm, an, cdv, ct, osl, rfl, lk, hcd⟩ := F.ex
  exact fn_of lk hcd S len fun A outer s H vs Q E hr hsp => hbody cdv A outer s H vs Q E hr hsp
end
/-- what is never reached wants nothing -/
theorem ps_off {X : Cx} {st : Stmt} : PS X st (fun _ _ _ => False) := ⟨fun _ _ _ _ _ _ h => h.elim⟩
theorem pss_off {X : Cx} {b : List Stmt} : PSs X b (fun _ _ _ => False) := ⟨fun _ _ _ _ _ _ h => h.elim⟩
abbrev veTail : List Value := [.type "ValueError", .type "Exception", .type "BaseException", .type "object"]
/-- what the top leaves of NoProgram -/
structure NgC (K : PySem.W.Frag) (mg : Str → Option Value) (C : Addr) : Prop where
  m : mg "NoProgram" = some (.ref C)
  q : PySem.W.excIn K C veTail "ValueError.__new__" = true
  kC : PySem.W.keepIn K (.ref C) = true
  sub : PySem.W.subIn K (.ref C) (.type "BaseException") = some true
  ty : PySem.W.typeIn K (.ref C) = some (.type "type")
def spCk (K : PySem.W.Frag) (C : Addr) : Sp := fun vs H Q E => ∃ b d, Kn b H ∧ DqAll K b H vs [d] ∧ okD 30 d = true ∧ (progD d = true → ∀ H', Ex H H' → Q .non H') ∧ (progD d = false → ∀ H', Ex H H' → E (.ref C) none H')
/-- handed what is no program, and n things more: refused -/
def spNo (K : PySem.W.Frag) (C : Addr) (n : Nat) : Sp := fun vs H _ E => ∃ b v vs' d, vs = v :: vs' ∧ vs'.length = n ∧ Kn b H ∧ Dq K b H v d ∧ okD 30 d = true ∧ progD d = false ∧ ∀ H', Ex H H' → E (.ref C) none H'
/-- the same of a method -/
def spNoM (K : PySem.W.Frag) (C : Addr) : Sp := fun vs H _ E => ∃ b u v v2 d, vs = [u, v, v2] ∧ Kn b H ∧ Dq K b H v d ∧ okD 30 d = true ∧ progD d = false ∧ ∀ H', Ex H H' → E (.ref C) none H'
theorem no_len {K : PySem.W.Frag} {C : Addr} {n : Nat} {ps : List Str} (h : ps.length = n + 1) (vs : List V) (H : Hp) (Q : VK) (E : XK) (x : spNo K C n vs H Q E) : vs.length = ps.length := by
  obtain ⟨_, v, vs', _, e, l, _⟩ := x
  rw [e, h, List.length_cons, l]
theorem ed_thing {K : PySem.W.Frag} {b : List Addr} {H : Hp} {v : V} {d : PyData} (h : Dq K b H v d) : DqAll K b H [v] [d] := .cons h .nil
abbrev N_part_number : List Str := ["program", "part"]
abbrev P_part_number : List Str := ["program", "part"]
theorem sc_part_number : FnScope N_part_number P_part_number (defScope s_part_number) := ⟨rfl, rfl, rfl, by decide +kernel, rfl, by decide +kernel, by decide +kernel⟩
abbrev N_names_in : List Str := ["program", "part", "name", "names", "rows", "told", "row"]
abbrev P_names_in : List Str := ["program", "part"]
theorem sc_names_in : FnScope N_names_in P_names_in (defScope s_names_in) := ⟨rfl, rfl, rfl, by decide +kernel, rfl, by decide +kernel, by decide +kernel⟩
abbrev N_standings : List Str := ["program", "part", "met", "at"]
abbrev P_standings : List Str := ["program", "part"]
theorem sc_standings : FnScope N_standings P_standings (defScope s_standings) := ⟨rfl, rfl, rfl, by decide +kernel, rfl, by decide +kernel, by decide +kernel⟩
abbrev N_part_paper : List Str := ["program", "part", "many", "met", "ahead", "paper", "known", "walks", "at"]
abbrev P_part_paper : List Str := ["program", "part"]
theorem sc_part_paper : FnScope N_part_paper P_part_paper (defScope s_part_paper) := ⟨rfl, rfl, rfl, by decide +kernel, rfl, by decide +kernel, by decide +kernel⟩
abbrev N_callers : List Str := ["program", "name", "names", "rows"]
abbrev P_callers : List Str := ["program"]
theorem sc_callers : FnScope N_callers P_callers (defScope s_callers) := ⟨rfl, rfl, rfl, by decide +kernel, rfl, by decide +kernel, by decide +kernel⟩
abbrev N_is_sound : List Str := ["program", "name", "names", "rows"]
abbrev P_is_sound : List Str := ["program"]
theorem sc_is_sound : FnScope N_is_sound P_is_sound (defScope s_is_sound) := ⟨rfl, rfl, rfl, by decide +kernel, rfl, by decide +kernel, by decide +kernel⟩
abbrev N_show_program : List Str := ["program", "lines", "name", "names", "rows", "at", "row", "told"]
abbrev P_show_program : List Str := ["program"]
theorem sc_show_program : FnScope N_show_program P_show_program (defScope s_show_program) := ⟨rfl, rfl, rfl, by decide +kernel, rfl, by decide +kernel, by decide +kernel⟩
abbrev N_row_at : List Str := ["program", "part", "row", "rows"]
abbrev P_row_at : List Str := ["program", "part", "row"]
theorem sc_row_at : FnScope N_row_at P_row_at (defScope s_row_at) := ⟨rfl, rfl, rfl, by decide +kernel, rfl, by decide +kernel, by decide +kernel⟩
abbrev N_agree : List Str := ["program", "part", "one", "other", "rows", "met"]
abbrev P_agree : List Str := ["program", "part", "one", "other"]
theorem sc_agree : FnScope N_agree P_agree (defScope s_agree) := ⟨rfl, rfl, rfl, by decide +kernel, rfl, by decide +kernel, by decide +kernel⟩
abbrev N_rows_paper : List Str := ["program", "part", "one", "other", "rows", "met", "ahead", "paper", "row", "word"]
abbrev P_rows_paper : List Str := ["program", "part", "one", "other"]
theorem sc_rows_paper : FnScope N_rows_paper P_rows_paper (defScope s_rows_paper) := ⟨rfl, rfl, rfl, by decide +kernel, rfl, by decide +kernel, by decide +kernel⟩
abbrev N_is_hook : List Str := ["program", "thing"]
abbrev P_is_hook : List Str := ["program", "thing"]
theorem sc_is_hook : FnScope N_is_hook P_is_hook (defScope s_is_hook) := ⟨rfl, rfl, rfl, by decide +kernel, rfl, by decide +kernel, by decide +kernel⟩
abbrev N_holds : List Str := ["program", "thing", "word", "part", "told", "one", "other", "name", "names", "rows"]
abbrev P_holds : List Str := ["program", "thing"]
theorem sc_holds : FnScope N_holds P_holds (defScope s_holds) := ⟨rfl, rfl, rfl, by decide +kernel, rfl, by decide +kernel, by decide +kernel⟩
abbrev N_begun : List Str := ["program", "part", "numbers"]
abbrev P_begun : List Str := ["program", "part", "numbers"]
theorem sc_begun : FnScope N_begun P_begun (defScope s_begun) := ⟨rfl, rfl, rfl, by decide +kernel, rfl, by decide +kernel, by decide +kernel⟩
abbrev N_run_paper : List Str := ["program", "part", "numbers", "hooks", "most", "state", "states"]
abbrev P_run_paper : List Str := ["program", "part", "numbers", "hooks", "most"]
theorem sc_run_paper : FnScope N_run_paper P_run_paper (defScope s_run_paper) := ⟨rfl, rfl, rfl, by decide +kernel, rfl, by decide +kernel, by decide +kernel⟩
abbrev N_walked : List Str := ["program", "part", "numbers", "most", "first", "walk", "heard", "done", "last", "frames", "said", "end"]
abbrev P_walked : List Str := ["program", "part", "numbers", "most"]
theorem sc_walked : FnScope N_walked P_walked (defScope s_walked) := ⟨rfl, rfl, rfl, by decide +kernel, rfl, by decide +kernel, by decide +kernel⟩
abbrev P_wi : List Str := ["self", "program", "hooks"]
theorem sc_wi : FnScope P_wi P_wi (defScope s_wi) := ⟨rfl, rfl, rfl, by decide +kernel, rfl, by decide +kernel, by decide +kernel⟩
section
variable {P : Program} {w : World} {K : PySem.W.Frag} {mg : Str → Option Value} {base : Heap} {C f g g2 : Addr} {fd gd gd2 : FuncData}
theorem ok_checkN (T : NgC K mg C) (D : Def K mg "check_program" s_check ["thing"] f fd) {st : Stmt} (D1 : Def K mg "is_program" st ["thing"] g gd) (G1 : FnOk P w K mg base CX0 5 g gd ["thing"] (spP K ProgPre (F1 progD))) :
    FnOk P w K mg base (L2N.CX P w) 6 f fd ["thing"] (spCk K C) := by
  refine okN D.F sc_check (fun vs H Q E ⟨b, d, _, hd, _⟩ => by rw [dps_len hd]; rfl) (fun cdv A outer s H vs Q E hr h => ?_)
  obtain ⟨b, d, kn, hd, ho, q1, q2⟩ := h
  obtain ⟨v, d', rfl, e, h1⟩ := one_of hd rfl
  cases e
  refine ⟨_, pss_one (ps_if (pt_not (pt_val (pe_cd D1 G1 hr (pa_cons (pv 0) pa_nil)))) (pss_one (L2N.ps_raise (W := fun cls d _ H => E cls d H) rfl (L2N.takes_of rfl rfl rfl rfl) (L2N.pmk_own F.excBase_ValueError T.q T.m T.kC (raises_own T.sub T.ty) rfl))) pss_nil), ?_⟩
  have t1 := et_n (et_b (ed_call (K := K) (b := b) (σ := start ["thing"] [v]) (H := H) (pre := ProgPre) (f := F1 progD) (E := E0) kn (ea_cons (ed_var (i := 0) rfl h1) ea_nil) ⟨rfl, fun d' e => by cases e; exact ho⟩))
  refine t1 H (Ex.refl H) _ fun H1 x1 => ?_
  cases hp : progD d with
  | true =>
    show ite (false = true) _ _
    rw [if_neg Bool.false_ne_true]
    exact q1 hp H1 x1
  | false =>
    show ite (true = true) _ _
    rw [if_pos rfl]
    exact q2 hp H1 x1
abbrev CkN (P : Program) (w : World) (K : PySem.W.Frag) (mg : Str → Option Value) (base : Heap) (C g : Addr) (gd : FuncData) : Prop := FnOk P w K mg base (L2N.CX P w) 6 g gd ["thing"] (spCk K C)
theorem no_part_number (D : Def K mg "part_number" s_part_number P_part_number f fd) (Dc : Def K mg "check_program" s_check ["thing"] g gd) (Gc : CkN P w K mg base C g gd) : FnOk P w K mg base (L2N.CX P w) 7 f fd P_part_number (spNo K C 1) := by
  refine okN D.F sc_part_number (no_len rfl) (fun cdv A outer s H vs Q E hr h => ?_)
  obtain ⟨b, v, vs', d, rfl, _, kn, h1, ho, hp, q⟩ := h
  refine ⟨_, pss_cons (ps_expr (pe_callS (E := WE fun cls d _ H => E cls d H) Gc hr rfl Dc.m Dc.F.kp Dc.b (fun σ => L2N.passAt (L2N.takes_of rfl rfl rfl rfl) σ) (pa_cons (pv 0) pa_nil))) pss_off, ?_⟩
  exact ⟨v, rfl, b, d, kn, ed_thing h1, ho, fun h => absurd (h.symm.trans hp) (by decide), fun _ H0 x0 => q H0 x0⟩
theorem no_names_in (D : Def K mg "names_in" s_names_in P_names_in f fd) (Dc : Def K mg "check_program" s_check ["thing"] g gd) (Gc : CkN P w K mg base C g gd) : FnOk P w K mg base (L2N.CX P w) 7 f fd P_names_in (spNo K C 1) := by
  refine okN D.F sc_names_in (no_len rfl) (fun cdv A outer s H vs Q E hr h => ?_)
  obtain ⟨b, v, vs', d, rfl, _, kn, h1, ho, hp, q⟩ := h
  refine ⟨_, pss_cons (ps_expr (pe_callS (E := WE fun cls d _ H => E cls d H) Gc hr rfl Dc.m Dc.F.kp Dc.b (fun σ => L2N.passAt (L2N.takes_of rfl rfl rfl rfl) σ) (pa_cons (pv 0) pa_nil))) pss_off, ?_⟩
  exact ⟨v, rfl, b, d, kn, ed_thing h1, ho, fun h => absurd (h.symm.trans hp) (by decide), fun _ H0 x0 => q H0 x0⟩
theorem no_standings (D : Def K mg "standings" s_standings P_standings f fd) (Dc : Def K mg "check_program" s_check ["thing"] g gd) (Gc : CkN P w K mg base C g gd) : FnOk P w K mg base (L2N.CX P w) 7 f fd P_standings (spNo K C 1) := by
  refine okN D.F sc_standings (no_len rfl) (fun cdv A outer s H vs Q E hr h => ?_)
  obtain ⟨b, v, vs', d, rfl, _, kn, h1, ho, hp, q⟩ := h
  refine ⟨_, pss_cons (ps_expr (pe_callS (E := WE fun cls d _ H => E cls d H) Gc hr rfl Dc.m Dc.F.kp Dc.b (fun σ => L2N.passAt (L2N.takes_of rfl rfl rfl rfl) σ) (pa_cons (pv 0) pa_nil))) pss_off, ?_⟩
  exact ⟨v, rfl, b, d, kn, ed_thing h1, ho, fun h => absurd (h.symm.trans hp) (by decide), fun _ H0 x0 => q H0 x0⟩
theorem no_part_paper (D : Def K mg "part_paper" s_part_paper P_part_paper f fd) (Dc : Def K mg "check_program" s_check ["thing"] g gd) (Gc : CkN P w K mg base C g gd) : FnOk P w K mg base (L2N.CX P w) 7 f fd P_part_paper (spNo K C 1) := by
  refine okN D.F sc_part_paper (no_len rfl) (fun cdv A outer s H vs Q E hr h => ?_)
  obtain ⟨b, v, vs', d, rfl, _, kn, h1, ho, hp, q⟩ := h
  refine ⟨_, pss_cons (ps_expr (pe_callS (E := WE fun cls d _ H => E cls d H) Gc hr rfl Dc.m Dc.F.kp Dc.b (fun σ => L2N.passAt (L2N.takes_of rfl rfl rfl rfl) σ) (pa_cons (pv 0) pa_nil))) pss_off, ?_⟩
  exact ⟨v, rfl, b, d, kn, ed_thing h1, ho, fun h => absurd (h.symm.trans hp) (by decide), fun _ H0 x0 => q H0 x0⟩
theorem no_callers (D : Def K mg "callers" s_callers P_callers f fd) (Dc : Def K mg "check_program" s_check ["thing"] g gd) (Gc : CkN P w K mg base C g gd) : FnOk P w K mg base (L2N.CX P w) 7 f fd P_callers (spNo K C 0) := by
  refine okN D.F sc_callers (no_len rfl) (fun cdv A outer s H vs Q E hr h => ?_)
  obtain ⟨b, v, vs', d, rfl, _, kn, h1, ho, hp, q⟩ := h
  refine ⟨_, pss_cons (ps_expr (pe_callS (E := WE fun cls d _ H => E cls d H) Gc hr rfl Dc.m Dc.F.kp Dc.b (fun σ => L2N.passAt (L2N.takes_of rfl rfl rfl rfl) σ) (pa_cons (pv 0) pa_nil))) pss_off, ?_⟩
  exact ⟨v, rfl, b, d, kn, ed_thing h1, ho, fun h => absurd (h.symm.trans hp) (by decide), fun _ H0 x0 => q H0 x0⟩
theorem no_is_sound (D : Def K mg "is_sound" s_is_sound P_is_sound f fd) (Dc : Def K mg "check_program" s_check ["thing"] g gd) (Gc : CkN P w K mg base C g gd) : FnOk P w K mg base (L2N.CX P w) 7 f fd P_is_sound (spNo K C 0) := by
  refine okN D.F sc_is_sound (no_len rfl) (fun cdv A outer s H vs Q E hr h => ?_)
  obtain ⟨b, v, vs', d, rfl, _, kn, h1, ho, hp, q⟩ := h
  refine ⟨_, pss_cons (ps_expr (pe_callS (E := WE fun cls d _ H => E cls d H) Gc hr rfl Dc.m Dc.F.kp Dc.b (fun σ => L2N.passAt (L2N.takes_of rfl rfl rfl rfl) σ) (pa_cons (pv 0) pa_nil))) pss_off, ?_⟩
  exact ⟨v, rfl, b, d, kn, ed_thing h1, ho, fun h => absurd (h.symm.trans hp) (by decide), fun _ H0 x0 => q H0 x0⟩
theorem no_show_program (D : Def K mg "show_program" s_show_program P_show_program f fd) (Dc : Def K mg "check_program" s_check ["thing"] g gd) (Gc : CkN P w K mg base C g gd) : FnOk P w K mg base (L2N.CX P w) 7 f fd P_show_program (spNo K C 0) := by
  refine okN D.F sc_show_program (no_len rfl) (fun cdv A outer s H vs Q E hr h => ?_)
  obtain ⟨b, v, vs', d, rfl, _, kn, h1, ho, hp, q⟩ := h
  refine ⟨_, pss_cons (ps_expr (pe_callS (E := WE fun cls d _ H => E cls d H) Gc hr rfl Dc.m Dc.F.kp Dc.b (fun σ => L2N.passAt (L2N.takes_of rfl rfl rfl rfl) σ) (pa_cons (pv 0) pa_nil))) pss_off, ?_⟩
  exact ⟨v, rfl, b, d, kn, ed_thing h1, ho, fun h => absurd (h.symm.trans hp) (by decide), fun _ H0 x0 => q H0 x0⟩
theorem no_row_at (D : Def K mg "row_at" s_row_at P_row_at f fd) (Dc : Def K mg "check_program" s_check ["thing"] g gd) (Gc : CkN P w K mg base C g gd) : FnOk P w K mg base (L2N.CX P w) 7 f fd P_row_at (spNo K C 2) := by
  refine okN D.F sc_row_at (no_len rfl) (fun cdv A outer s H vs Q E hr h => ?_)
  obtain ⟨b, v, vs', d, rfl, _, kn, h1, ho, hp, q⟩ := h
  refine ⟨_, pss_cons (ps_expr (pe_callS (E := WE fun cls d _ H => E cls d H) Gc hr rfl Dc.m Dc.F.kp Dc.b (fun σ => L2N.passAt (L2N.takes_of rfl rfl rfl rfl) σ) (pa_cons (pv 0) pa_nil))) pss_off, ?_⟩
  exact ⟨v, rfl, b, d, kn, ed_thing h1, ho, fun h => absurd (h.symm.trans hp) (by decide), fun _ H0 x0 => q H0 x0⟩
theorem no_agree (D : Def K mg "agree" s_agree P_agree f fd) (Dc : Def K mg "check_program" s_check ["thing"] g gd) (Gc : CkN P w K mg base C g gd) : FnOk P w K mg base (L2N.CX P w) 7 f fd P_agree (spNo K C 3) := by
  refine okN D.F sc_agree (no_len rfl) (fun cdv A outer s H vs Q E hr h => ?_)
  obtain ⟨b, v, vs', d, rfl, _, kn, h1, ho, hp, q⟩ := h
  refine ⟨_, pss_cons (ps_expr (pe_callS (E := WE fun cls d _ H => E cls d H) Gc hr rfl Dc.m Dc.F.kp Dc.b (fun σ => L2N.passAt (L2N.takes_of rfl rfl rfl rfl) σ) (pa_cons (pv 0) pa_nil))) pss_off, ?_⟩
  exact ⟨v, rfl, b, d, kn, ed_thing h1, ho, fun h => absurd (h.symm.trans hp) (by decide), fun _ H0 x0 => q H0 x0⟩
theorem no_rows_paper (D : Def K mg "rows_paper" s_rows_paper P_rows_paper f fd) (Dc : Def K mg "check_program" s_check ["thing"] g gd) (Gc : CkN P w K mg base C g gd) : FnOk P w K mg base (L2N.CX P w) 7 f fd P_rows_paper (spNo K C 3) := by
  refine okN D.F sc_rows_paper (no_len rfl) (fun cdv A outer s H vs Q E hr h => ?_)
  obtain ⟨b, v, vs', d, rfl, _, kn, h1, ho, hp, q⟩ := h
  refine ⟨_, pss_cons (ps_expr (pe_callS (E := WE fun cls d _ H => E cls d H) Gc hr rfl Dc.m Dc.F.kp Dc.b (fun σ => L2N.passAt (L2N.takes_of rfl rfl rfl rfl) σ) (pa_cons (pv 0) pa_nil))) pss_off, ?_⟩
  exact ⟨v, rfl, b, d, kn, ed_thing h1, ho, fun h => absurd (h.symm.trans hp) (by decide), fun _ H0 x0 => q H0 x0⟩
theorem no_is_hook (D : Def K mg "is_hook" s_is_hook P_is_hook f fd) (Dc : Def K mg "check_program" s_check ["thing"] g gd) (Gc : CkN P w K mg base C g gd) : FnOk P w K mg base (L2N.CX P w) 7 f fd P_is_hook (spNo K C 1) := by
  refine okN D.F sc_is_hook (no_len rfl) (fun cdv A outer s H vs Q E hr h => ?_)
  obtain ⟨b, v, vs', d, rfl, _, kn, h1, ho, hp, q⟩ := h
  refine ⟨_, pss_cons (ps_expr (pe_callS (E := WE fun cls d _ H => E cls d H) Gc hr rfl Dc.m Dc.F.kp Dc.b (fun σ => L2N.passAt (L2N.takes_of rfl rfl rfl rfl) σ) (pa_cons (pv 0) pa_nil))) pss_off, ?_⟩
  exact ⟨v, rfl, b, d, kn, ed_thing h1, ho, fun h => absurd (h.symm.trans hp) (by decide), fun _ H0 x0 => q H0 x0⟩
theorem no_holds (D : Def K mg "holds" s_holds P_holds f fd) (Dc : Def K mg "check_program" s_check ["thing"] g gd) (Gc : CkN P w K mg base C g gd) : FnOk P w K mg base (L2N.CX P w) 7 f fd P_holds (spNo K C 1) := by
  refine okN D.F sc_holds (no_len rfl) (fun cdv A outer s H vs Q E hr h => ?_)
  obtain ⟨b, v, vs', d, rfl, _, kn, h1, ho, hp, q⟩ := h
  refine ⟨_, pss_cons (ps_expr (pe_callS (E := WE fun cls d _ H => E cls d H) Gc hr rfl Dc.m Dc.F.kp Dc.b (fun σ => L2N.passAt (L2N.takes_of rfl rfl rfl rfl) σ) (pa_cons (pv 0) pa_nil))) pss_off, ?_⟩
  exact ⟨v, rfl, b, d, kn, ed_thing h1, ho, fun h => absurd (h.symm.trans hp) (by decide), fun _ H0 x0 => q H0 x0⟩
theorem no_begun {dvs : List V} {kws : List (Str × V)} (F : FunD K "begun" "begun" (defArgs s_begun) (defBody s_begun) (defScope s_begun) dvs kws f fd) (Dc : Def K mg "check_program" s_check ["thing"] g gd) (Gc : CkN P w K mg base C g gd) : FnOk P w K mg base (L2N.CX P w) 7 f fd P_begun (spNo K C 2) := by
  refine F.ok sc_begun (no_len rfl) (fun cdv A outer s H vs Q E hr h => ?_)
  obtain ⟨b, v, vs', d, rfl, _, kn, h1, ho, hp, q⟩ := h
  refine ⟨_, pss_cons (ps_expr (pe_callS (E := WE fun cls d _ H => E cls d H) Gc hr rfl Dc.m Dc.F.kp Dc.b (fun σ => L2N.passAt (L2N.takes_of rfl rfl rfl rfl) σ) (pa_cons (pv 0) pa_nil))) pss_off, ?_⟩
  exact ⟨v, rfl, b, d, kn, ed_thing h1, ho, fun h => absurd (h.symm.trans hp) (by decide), fun _ H0 x0 => q H0 x0⟩
theorem no_run_paper {dvs : List V} {kws : List (Str × V)} (F : FunD K "run_paper" "run_paper" (defArgs s_run_paper) (defBody s_run_paper) (defScope s_run_paper) dvs kws f fd) (Dc : Def K mg "check_program" s_check ["thing"] g gd) (Gc : CkN P w K mg base C g gd) : FnOk P w K mg base (L2N.CX P w) 7 f fd P_run_paper (spNo K C 4) := by
  refine F.ok sc_run_paper (no_len rfl) (fun cdv A outer s H vs Q E hr h => ?_)
  obtain ⟨b, v, vs', d, rfl, _, kn, h1, ho, hp, q⟩ := h
  refine ⟨_, pss_cons (ps_expr (pe_callS (E := WE fun cls d _ H => E cls d H) Gc hr rfl Dc.m Dc.F.kp Dc.b (fun σ => L2N.passAt (L2N.takes_of rfl rfl rfl rfl) σ) (pa_cons (pv 0) pa_nil))) pss_off, ?_⟩
  exact ⟨v, rfl, b, d, kn, ed_thing h1, ho, fun h => absurd (h.symm.trans hp) (by decide), fun _ H0 x0 => q H0 x0⟩
theorem no_walked {dvs : List V} {kws : List (Str × V)} (F : FunD K "walked" "walked" (defArgs s_walked) (defBody s_walked) (defScope s_walked) dvs kws f fd) (mb : mg "begun" = some (.ref g)) (kb : PySem.W.keepIn K (.ref g) = true) (bb : Binds K gd P_begun []) (Gb : FnOk P w K mg base (L2N.CX P w) 7 g gd P_begun (spNo K C 2)) : FnOk P w K mg base (L2N.CX P w) 8 f fd P_walked (spNo K C 3) := by
  refine F.ok sc_walked (no_len rfl) (fun cdv A outer s H vs Q E hr h => ?_)
  obtain ⟨b, v, vs', d, rfl, hl, kn, h1, ho, hp, q⟩ := h
  obtain ⟨v2, v3, v4, rfl⟩ : ∃ v2 v3 v4, vs' = [v2, v3, v4] := by
    match vs', hl with
    | [x, y, z], _ => exact ⟨x, y, z, rfl⟩
  refine ⟨_, pss_cons (ps_set (i := 4) sc_walked.nd rfl (Or.inl rfl) (pe_callS (E := WE fun cls d _ H => E cls d H) Gb hr rfl mb kb bb (fun σ => L2N.passAt (L2N.takes_of rfl rfl rfl rfl) σ) (pa_cons (pv 0) (pa_cons (pv 1) (pa_cons (pv 2) pa_nil))))) pss_off, ?_⟩
  exact ⟨v, rfl, v2, rfl, v3, rfl, b, v, [v2, v3], d, rfl, rfl, kn, h1, ho, hp, fun H' x => q H' x⟩
theorem no_wi {dvs : List V} {kws : List (Str × V)} (F : FunD K "__init__" "Watch.__init__" (defArgs s_wi) (defBody s_wi) (defScope s_wi) dvs kws f fd) (Dc : Def K mg "check_program" s_check ["thing"] g gd) (Gc : CkN P w K mg base C g gd) : FnOk P w K mg base (L2N.CX P w) 7 f fd P_wi (spNoM K C) := by
  refine F.ok sc_wi (fun vs H Q E ⟨_, _, _, _, _, e, _⟩ => by rw [e]; rfl) (fun cdv A outer s H vs Q E hr h => ?_)
  obtain ⟨b, u, v, v2, d, rfl, kn, h1, ho, hp, q⟩ := h
  refine ⟨_, pss_cons (ps_expr (pe_callS (E := WE fun cls d _ H => E cls d H) Gc hr rfl Dc.m Dc.F.kp Dc.b (fun σ => L2N.passAt (L2N.takes_of rfl rfl rfl rfl) σ) (pa_cons (pv 1) pa_nil))) pss_off, ?_⟩
  exact ⟨v, rfl, b, d, kn, ed_thing h1, ho, fun h => absurd (h.symm.trans hp) (by decide), fun _ H0 x0 => q H0 x0⟩
end
end Wr

set_option Elab.async false
set_option linter.all false
set_option maxRecDepth 100000
set_option maxHeartbeats 4000000
namespace Wr
open PySem PySem.Spec PyProof.Rows L2 Evl HotX L2H
/-! ### of which kind the exception is that is handled -/
def kindN : List Str := ["NoProgram", "NoPart", "NoRow", "TooLong", "Unsound", "NoNumbers", "NoHook", "TooMany", "Busy", "NoText", "NoWord", "NoMark"]
def kindB : List String := ["ValueError", "KeyError", "IndexError", "OverflowError", "ValueError", "ValueError", "LookupError", "OverflowError", "RuntimeError", "ValueError", "ValueError", "KeyError"]
structure KiM (mg : Str → Option Value) (cs : List Addr) : Prop where
  m0 : mg "NoProgram" = some (.ref (cs.getD 0 0))
  m1 : mg "NoPart" = some (.ref (cs.getD 1 0))
  m2 : mg "NoRow" = some (.ref (cs.getD 2 0))
  m3 : mg "TooLong" = some (.ref (cs.getD 3 0))
  m4 : mg "Unsound" = some (.ref (cs.getD 4 0))
  m5 : mg "NoNumbers" = some (.ref (cs.getD 5 0))
  m6 : mg "NoHook" = some (.ref (cs.getD 6 0))
  m7 : mg "TooMany" = some (.ref (cs.getD 7 0))
  m8 : mg "Busy" = some (.ref (cs.getD 8 0))
  m9 : mg "NoText" = some (.ref (cs.getD 9 0))
  m10 : mg "NoWord" = some (.ref (cs.getD 10 0))
  m11 : mg "NoMark" = some (.ref (cs.getD 11 0))
  nValueError : mg "ValueError" = none
  nKeyError : mg "KeyError" = none
  nIndexError : mg "IndexError" = none
  nOverflowError : mg "OverflowError" = none
  nLookupError : mg "LookupError" = none
  nRuntimeError : mg "RuntimeError" = none
structure KiC (K : PySem.W.Frag) (C : Addr) (cs : List Addr) (i : Nat) (bs : List Bool) : Prop where
  lt : i < 12
  own : ∀ j, j < 12 → PySem.W.kitOne K (.ref C) (.ref (cs.getD j 0)) = some (decide (j = i))
  bas : ∀ j, j < 12 → PySem.W.kitOne K (.ref C) (.type (kindB.getD j "")) = some (bs.getD j false)
  bi : bs.getD i false = true
theorem bkValueError : bootBuiltins "ValueError" = some (.type "ValueError") := by decide +kernel
theorem bkKeyError : bootBuiltins "KeyError" = some (.type "KeyError") := by decide +kernel
theorem bkIndexError : bootBuiltins "IndexError" = some (.type "IndexError") := by decide +kernel
theorem bkOverflowError : bootBuiltins "OverflowError" = some (.type "OverflowError") := by decide +kernel
theorem bkLookupError : bootBuiltins "LookupError" = some (.type "LookupError") := by decide +kernel
theorem bkRuntimeError : bootBuiltins "RuntimeError" = some (.type "RuntimeError") := by decide +kernel
abbrev NKi : List Str := ["_law_e", "_law_some", "_law_named", "_law_right", "_law_name", "_law_ours", "_law_theirs"]
theorem sc_ki : FnScope NKi ["_law_e"] (defScope s_ki) := ⟨rfl, rfl, rfl, by decide +kernel, rfl, by decide +kernel, by decide +kernel⟩
def kRow (i : Nat) (bs : List Bool) (j : Nat) : PyData := .tuple [.str (kindN.getD j ""), .bool (decide (j = i)), .bool (bs.getD j false)]
def spKi (K : PySem.W.Frag) (cs : List Addr) (p : Addr × Obj) : Sp := fun vs H Q _ => ∃ (C : Addr) (i : Nat) (bs : List Bool), vs = [.ref p.1] ∧ PinC C H p ∧ KiC K C cs i bs ∧ IsxC K C ∧ PySem.W.hasDictIn K C = true ∧ ∀ H', Ex H H' → Q (.str (kindN.getD i "")) H'
theorem g_asg {te : TE} {k : Nat} {ts : TS} {D : Ends} {σ : L2.St} {H : Hp} (h : te σ H fun x H1 => ts D (σ.set k (some x)) H1) : tSeq (tAsg te (gName k)) ts D σ H := h
theorem PinC.up {C : Addr} {H H' : Hp} {p : Addr × Obj} (h : PinC C H p) (x : Ex H H') : PinC C H' p := ⟨h.1, h.2.1, h.2.2.imp (fun ⟨dd, fs, e1, e2⟩ => ⟨dd, fs, e1, x _ _ e2⟩) id⟩
def kSel (c : Nat → Bool) (m : Nat) : List V := ((List.range m).filter c).map fun j => V.str (kindN.getD j "")
theorem lcK {K : PySem.W.Frag} {a0 : V} {s2 s3 s4 s5 s6 : Option V} {H : Hp} {p1 : Addr} {vs : List V} {i : Nat} {bs : List Bool} {tt : TT} {c : Nat → Bool} {Q : VK} (e : H p1 = some (.lst vs)) (d : DqAll K [] H vs ((List.range 12).map (kRow i bs)))
    (ht : ∀ j, j < 12 → ∀ H', EvT tt [some a0, some (.ref p1), s2, s3, some (.str (kindN.getD j "")), some (.bl (decide (j = i))), some (.bl (bs.getD j false))] H' (c j))
    (q : ∀ D H', Ex H H' → H' D = some (.lst (kSel c 12)) → Q (.ref D) H') : tLc (iList K (tVar 1)) (gTup K 3 (gCons (gName 4) (gCons (gName 5) (gCons (gName 6) gNil)))) tt (tVar 4) [4, 5, 6] [some a0, some (.ref p1), s2, s3, s4, s5, s6] H Q := by
  have hl := dps_len d
  rw [List.length_map, List.length_range] at hl
  have hsl : sizeLine = 16777216 := sizeLine_eq
  refine ⟨.ref p1, rfl, p1, rfl, ⟨vs, .inl (.inl e)⟩, fun Dl hD => ?_⟩
  refine lc_it walk_list (fun m H3 => Ex H H3 ∧ H3 Dl = some (.lst (kSel c m))) ⟨Ex.new hD, upd_same⟩ (fun m H3 _ h => .inl (.inl (h.1 _ _ e))) ?_ ?_
  · intro m x H3 H3' hm ⟨x3, e3⟩ ⟨eH, hx⟩
    subst eH
    obtain ⟨dd, hdd, dx⟩ := dps_at d hx
    have hm : m < 12 := by omega
    rw [List.getElem?_map, List.getElem?_range hm] at hdd
    have ed := (Option.some.inj hdd).symm
    subst ed
    have dx : Dq K [] H3' x (kRow i bs m) := Dq.up dx x3
    cases dx with
    | @tup a2 xs2 _ k1 kn2 k2 =>
    cases k2 with
    | @cons v3 _ _ _ m1 k2 =>
    cases k2 with
    | @cons v4 _ _ _ m2 k2 =>
    cases k2 with
    | @cons v5 _ _ _ m3 k2 =>
    cases k2
    have z1 := dq_str (K := K) (b := []) m1
    have z2 := dq_bl (K := K) (b := []) m2
    have z3 := dq_bl (K := K) (b := []) m3
    subst z1 z2 z3
    refine ⟨a2, _, rfl, ex_t hid_le k1, rfl, _, _, rfl, _, _, rfl, _, _, rfl, rfl, rfl, ?_⟩
    refine ht m hm H3' H3' (Ex.refl H3') _ fun H4 x4 => ?_
    have es : kSel c (m + 1) = kSel c m ++ if c m = true then [V.str (kindN.getD m "")] else [] := by
      unfold kSel
      rw [List.range_succ, List.filter_append, List.map_append]
      congr 1
      cases hc : c m with
      | true => simp [List.filter_cons, hc]
      | false => simp [List.filter_cons, hc]
    have ll : (kSel c m).length ≤ 12 := by
      unfold kSel
      rw [List.length_map]
      exact Nat.le_trans (List.length_filter_le _ _) (by rw [List.length_range]; omega)
    cases hc : c m with
    | false =>
      rw [if_neg Bool.false_ne_true]
      rw [es, hc, if_neg Bool.false_ne_true, List.append_nil]
      exact ⟨x3.trans x4, x4 _ _ e3⟩
    | true =>
      rw [if_pos rfl]
      refine ⟨_, rfl, kSel c m, x4 _ _ e3, by omega, Ex.mut (x3.trans x4) hD, ?_⟩
      rw [es, hc, if_pos rfl]
      exact upd_same
  · intro H3 ⟨x3, e3⟩
    rw [hl] at e3
    exact q Dl H3 x3 e3
section
variable {P : Program} {w : World} {K : PySem.W.Frag} {mg : Str → Option Value} {base : Heap} {f : Addr} {fd : FuncData} {cs : List Addr}
theorem ok_ki (D : Def K mg "_law_kind" s_ki ["_law_e"] f fd) (M : KiM mg cs) (B : Blt mg) : FnE P w K mg base 1 f fd ["_law_e"] (spKi K cs) := by
  obtain ⟨oc, od, kV, doc, pm, an, cdv, ct, osl, rfl, lk, hcd⟩ := D.F.ex
  refine fn_ofE (k := 0) lk hcd sc_ki (fun p vs H Q E ⟨_, _, _, e, _⟩ => by rw [e]; rfl) fun p A outer s H vs Q E hot hr h => ?_
  obtain ⟨C, i, bs, rfl, pin, KC, IT, hdc, q⟩ := h
  have hu : (A.deeper (envOfC "_law_kind" (defScope s_ki) s.heap.objs.size f cdv)).units + 64 < cLine := by
    have := hr.un
    omega
  have hpm : p ∈ [p] := List.mem_singleton.mpr rfl
  refine ⟨_, pss_cons (ps_set (i := 1) sc_ki.nd rfl (Or.inl rfl) (pe_lst (pa_cons (pe_tupF (pa_cons pe_str (pa_cons (pe_callB (r := rIsP K C p) (call_isP IT hdc hpm) rfl B.isi bb_isinstance (pa_cons (pv 0) (pa_cons (pe_gR M.m0) pa_nil))) (pa_cons (pe_callB (r := rIsP K C p) (call_isP IT hdc hpm) rfl B.isi bb_isinstance (pa_cons (pv 0) (pa_cons (pe_tyN rfl M.nValueError bkValueError) pa_nil))) pa_nil)))) (pa_cons (pe_tupF (pa_cons pe_str (pa_cons (pe_callB (r := rIsP K C p) (call_isP IT hdc hpm) rfl B.isi bb_isinstance (pa_cons (pv 0) (pa_cons (pe_gR M.m1) pa_nil))) (pa_cons (pe_callB (r := rIsP K C p) (call_isP IT hdc hpm) rfl B.isi bb_isinstance (pa_cons (pv 0) (pa_cons (pe_tyN rfl M.nKeyError bkKeyError) pa_nil))) pa_nil)))) (pa_cons (pe_tupF (pa_cons pe_str (pa_cons (pe_callB (r := rIsP K C p) (call_isP IT hdc hpm) rfl B.isi bb_isinstance (pa_cons (pv 0) (pa_cons (pe_gR M.m2) pa_nil))) (pa_cons (pe_callB (r := rIsP K C p) (call_isP IT hdc hpm) rfl B.isi bb_isinstance (pa_cons (pv 0) (pa_cons (pe_tyN rfl M.nIndexError bkIndexError) pa_nil))) pa_nil)))) (pa_cons (pe_tupF (pa_cons pe_str (pa_cons (pe_callB (r := rIsP K C p) (call_isP IT hdc hpm) rfl B.isi bb_isinstance (pa_cons (pv 0) (pa_cons (pe_gR M.m3) pa_nil))) (pa_cons (pe_callB (r := rIsP K C p) (call_isP IT hdc hpm) rfl B.isi bb_isinstance (pa_cons (pv 0) (pa_cons (pe_tyN rfl M.nOverflowError bkOverflowError) pa_nil))) pa_nil)))) (pa_cons (pe_tupF (pa_cons pe_str (pa_cons (pe_callB (r := rIsP K C p) (call_isP IT hdc hpm) rfl B.isi bb_isinstance (pa_cons (pv 0) (pa_cons (pe_gR M.m4) pa_nil))) (pa_cons (pe_callB (r := rIsP K C p) (call_isP IT hdc hpm) rfl B.isi bb_isinstance (pa_cons (pv 0) (pa_cons (pe_tyN rfl M.nValueError bkValueError) pa_nil))) pa_nil)))) (pa_cons (pe_tupF (pa_cons pe_str (pa_cons (pe_callB (r := rIsP K C p) (call_isP IT hdc hpm) rfl B.isi bb_isinstance (pa_cons (pv 0) (pa_cons (pe_gR M.m5) pa_nil))) (pa_cons (pe_callB (r := rIsP K C p) (call_isP IT hdc hpm) rfl B.isi bb_isinstance (pa_cons (pv 0) (pa_cons (pe_tyN rfl M.nValueError bkValueError) pa_nil))) pa_nil)))) (pa_cons (pe_tupF (pa_cons pe_str (pa_cons (pe_callB (r := rIsP K C p) (call_isP IT hdc hpm) rfl B.isi bb_isinstance (pa_cons (pv 0) (pa_cons (pe_gR M.m6) pa_nil))) (pa_cons (pe_callB (r := rIsP K C p) (call_isP IT hdc hpm) rfl B.isi bb_isinstance (pa_cons (pv 0) (pa_cons (pe_tyN rfl M.nLookupError bkLookupError) pa_nil))) pa_nil)))) (pa_cons (pe_tupF (pa_cons pe_str (pa_cons (pe_callB (r := rIsP K C p) (call_isP IT hdc hpm) rfl B.isi bb_isinstance (pa_cons (pv 0) (pa_cons (pe_gR M.m7) pa_nil))) (pa_cons (pe_callB (r := rIsP K C p) (call_isP IT hdc hpm) rfl B.isi bb_isinstance (pa_cons (pv 0) (pa_cons (pe_tyN rfl M.nOverflowError bkOverflowError) pa_nil))) pa_nil)))) (pa_cons (pe_tupF (pa_cons pe_str (pa_cons (pe_callB (r := rIsP K C p) (call_isP IT hdc hpm) rfl B.isi bb_isinstance (pa_cons (pv 0) (pa_cons (pe_gR M.m8) pa_nil))) (pa_cons (pe_callB (r := rIsP K C p) (call_isP IT hdc hpm) rfl B.isi bb_isinstance (pa_cons (pv 0) (pa_cons (pe_tyN rfl M.nRuntimeError bkRuntimeError) pa_nil))) pa_nil)))) (pa_cons (pe_tupF (pa_cons pe_str (pa_cons (pe_callB (r := rIsP K C p) (call_isP IT hdc hpm) rfl B.isi bb_isinstance (pa_cons (pv 0) (pa_cons (pe_gR M.m9) pa_nil))) (pa_cons (pe_callB (r := rIsP K C p) (call_isP IT hdc hpm) rfl B.isi bb_isinstance (pa_cons (pv 0) (pa_cons (pe_tyN rfl M.nValueError bkValueError) pa_nil))) pa_nil)))) (pa_cons (pe_tupF (pa_cons pe_str (pa_cons (pe_callB (r := rIsP K C p) (call_isP IT hdc hpm) rfl B.isi bb_isinstance (pa_cons (pv 0) (pa_cons (pe_gR M.m10) pa_nil))) (pa_cons (pe_callB (r := rIsP K C p) (call_isP IT hdc hpm) rfl B.isi bb_isinstance (pa_cons (pv 0) (pa_cons (pe_tyN rfl M.nValueError bkValueError) pa_nil))) pa_nil)))) (pa_cons (pe_tupF (pa_cons pe_str (pa_cons (pe_callB (r := rIsP K C p) (call_isP IT hdc hpm) rfl B.isi bb_isinstance (pa_cons (pv 0) (pa_cons (pe_gR M.m11) pa_nil))) (pa_cons (pe_callB (r := rIsP K C p) (call_isP IT hdc hpm) rfl B.isi bb_isinstance (pa_cons (pv 0) (pa_cons (pe_tyN rfl M.nKeyError bkKeyError) pa_nil))) pa_nil)))) pa_nil))))))))))))))
    (pss_cons (ps_setH (i := 2) (own := [("_law_name", 4), ("_law_ours", 5), ("_law_theirs", 6)]) (g := gTup K 3 (gCons (gName 4) (gCons (gName 5) (gCons (gName 6) gNil)))) (tt := tB (tVar 5)) (te := tVar 4) ⟨p, hot, hpm⟩ sc_ki.nd rfl rfl (sw_true rfl rfl rfl rfl) (pv 1) (blkOk_by (N := NKi) (sc := defScope s_ki) (by decide +kernel)) (fun _ _ _ _ _ hh => (pg_tupH hh (pgs_cons (pg_name (i := 4) sc_ki.nd rfl (Or.inl rfl)) (pgs_cons (pg_name (i := 5) sc_ki.nd rfl (Or.inl rfl)) (pgs_cons (pg_name (i := 6) sc_ki.nd rfl (Or.inl rfl)) pgs_nil))))) (fun _ _ _ _ _ => (pts_one (pt_val (pv 5)))) (fun _ _ _ _ _ => (pv 4)))
    (pss_cons (ps_setH (i := 3) (own := [("_law_name", 4), ("_law_ours", 5), ("_law_theirs", 6)]) (g := gTup K 3 (gCons (gName 4) (gCons (gName 5) (gCons (gName 6) gNil)))) (tt := tAnd (tB (tVar 5)) (tB (tVar 6))) (te := tVar 4) ⟨p, hot, hpm⟩ sc_ki.nd rfl rfl (sw_true rfl rfl rfl rfl) (pv 1) (blkOk_by (N := NKi) (sc := defScope s_ki) (by decide +kernel)) (fun _ _ _ _ _ hh => (pg_tupH hh (pgs_cons (pg_name (i := 4) sc_ki.nd rfl (Or.inl rfl)) (pgs_cons (pg_name (i := 5) sc_ki.nd rfl (Or.inl rfl)) (pgs_cons (pg_name (i := 6) sc_ki.nd rfl (Or.inl rfl)) pgs_nil))))) (fun _ _ _ _ _ => (pts_one (PW.pt (pw_and (pt_val (pv 5)) (pw_and1 (pt_val (pv 6))))))) (fun _ _ _ _ _ => (pv 4)))
    (pss_cons (ps_if (PW.pt (pw_and (pt_cmpR op_eq (pe_callB call_lenD1 rfl B.len bb_len (pa_cons (pv 2) pa_nil)) pe_int (nomark _)) (pw_and1 (pt_cmpR (op_eqV hu) (pv 2) (pv 3) (nomark _))))) (pss_one (ps_ret (pe_ix ix_list (pv 2) pe_int (fun _ _ => rfl)))) pss_nil)
    (pss_one (ps_ret pe_str))))), ?_⟩
  have hsl : sizeLine = 16777216 := sizeLine_eq
  have kn0 : ∀ {H' : Hp}, Kn [] H' := fun z hz => nomatch hz
  have hid0 : ∀ H' : Hp, hid [] H' = H' := fun H' => by
    funext c
    exact hid_ne (by intro z; cases z)
  have isx : ∀ {σ' H'} {c : V} {cv : Value} {k : Bool}, σ'[0]? = some (some (.ref p.1)) → Ex H H' → (∀ u, RelV c u → u = cv) → PySem.W.kitOne K (.ref C) cv = some k → ED K [] (tCB (rIsP K C p) (tCons (tVar 0) (tCons (tC c) tNil))) σ' H' (.bool k) := fun {σ' H' c cv k} e x hu hk H1 x1 Q q => ⟨.ref p.1, e, pin.up (x.trans x1), c, cv, k, rfl, hu, hk, q _ H1 (Ex.refl H1) (.bl k)⟩
  have s3 : ∀ {x y z : PyData}, [x, y, z].length ≤ sizeLine := fun {x y z} => by show 3 ≤ sizeLine; omega
  refine g_lst (K := K) (b := []) (ds := (List.range 12).map (kRow i bs)) kn0 (ea_cons (ed_tup kn0 (ea_cons ed_str (ea_cons (isx rfl (Ex.refl H) (fun u hu => by cases hu; rfl) (KC.own 0 (by decide))) (ea_cons (isx rfl (Ex.refl H) (fun u hu => by cases hu; rfl) (KC.bas 0 (by decide))) ea_nil))) s3) (ea_cons (ed_tup kn0 (ea_cons ed_str (ea_cons (isx rfl (Ex.refl H) (fun u hu => by cases hu; rfl) (KC.own 1 (by decide))) (ea_cons (isx rfl (Ex.refl H) (fun u hu => by cases hu; rfl) (KC.bas 1 (by decide))) ea_nil))) s3) (ea_cons (ed_tup kn0 (ea_cons ed_str (ea_cons (isx rfl (Ex.refl H) (fun u hu => by cases hu; rfl) (KC.own 2 (by decide))) (ea_cons (isx rfl (Ex.refl H) (fun u hu => by cases hu; rfl) (KC.bas 2 (by decide))) ea_nil))) s3) (ea_cons (ed_tup kn0 (ea_cons ed_str (ea_cons (isx rfl (Ex.refl H) (fun u hu => by cases hu; rfl) (KC.own 3 (by decide))) (ea_cons (isx rfl (Ex.refl H) (fun u hu => by cases hu; rfl) (KC.bas 3 (by decide))) ea_nil))) s3) (ea_cons (ed_tup kn0 (ea_cons ed_str (ea_cons (isx rfl (Ex.refl H) (fun u hu => by cases hu; rfl) (KC.own 4 (by decide))) (ea_cons (isx rfl (Ex.refl H) (fun u hu => by cases hu; rfl) (KC.bas 4 (by decide))) ea_nil))) s3) (ea_cons (ed_tup kn0 (ea_cons ed_str (ea_cons (isx rfl (Ex.refl H) (fun u hu => by cases hu; rfl) (KC.own 5 (by decide))) (ea_cons (isx rfl (Ex.refl H) (fun u hu => by cases hu; rfl) (KC.bas 5 (by decide))) ea_nil))) s3) (ea_cons (ed_tup kn0 (ea_cons ed_str (ea_cons (isx rfl (Ex.refl H) (fun u hu => by cases hu; rfl) (KC.own 6 (by decide))) (ea_cons (isx rfl (Ex.refl H) (fun u hu => by cases hu; rfl) (KC.bas 6 (by decide))) ea_nil))) s3) (ea_cons (ed_tup kn0 (ea_cons ed_str (ea_cons (isx rfl (Ex.refl H) (fun u hu => by cases hu; rfl) (KC.own 7 (by decide))) (ea_cons (isx rfl (Ex.refl H) (fun u hu => by cases hu; rfl) (KC.bas 7 (by decide))) ea_nil))) s3) (ea_cons (ed_tup kn0 (ea_cons ed_str (ea_cons (isx rfl (Ex.refl H) (fun u hu => by cases hu; rfl) (KC.own 8 (by decide))) (ea_cons (isx rfl (Ex.refl H) (fun u hu => by cases hu; rfl) (KC.bas 8 (by decide))) ea_nil))) s3) (ea_cons (ed_tup kn0 (ea_cons ed_str (ea_cons (isx rfl (Ex.refl H) (fun u hu => by cases hu; rfl) (KC.own 9 (by decide))) (ea_cons (isx rfl (Ex.refl H) (fun u hu => by cases hu; rfl) (KC.bas 9 (by decide))) ea_nil))) s3) (ea_cons (ed_tup kn0 (ea_cons ed_str (ea_cons (isx rfl (Ex.refl H) (fun u hu => by cases hu; rfl) (KC.own 10 (by decide))) (ea_cons (isx rfl (Ex.refl H) (fun u hu => by cases hu; rfl) (KC.bas 10 (by decide))) ea_nil))) s3) (ea_cons (ed_tup kn0 (ea_cons ed_str (ea_cons (isx rfl (Ex.refl H) (fun u hu => by cases hu; rfl) (KC.own 11 (by decide))) (ea_cons (isx rfl (Ex.refl H) (fun u hu => by cases hu; rfl) (KC.bas 11 (by decide))) ea_nil))) s3) ea_nil)))))))))))) (by show 12 ≤ sizeLine; omega) fun p1 vs1 H1 hp1 x1 e1 d1 => ?_
  show tSeq _ _ _ [some (.ref p.1), some (.ref p1), none, none, none, none, none] H1
  refine g_asg (lcK (a0 := .ref p.1) (c := fun j => decide (j = i)) e1 d1 (fun j hj H' => et_b (K := K) (b := []) (ed_var (i := 5) rfl (.bl _))) fun D2 H2 x2 e2 => ?_)
  show tSeq _ _ _ [some (.ref p.1), some (.ref p1), some (.ref D2), none, none, none, none] H2
  refine g_asg (lcK (a0 := .ref p.1) (c := fun j => decide (j = i) && bs.getD j false) (x2 _ _ e1) (DqAll.up d1 x2) (fun j hj H' => et_and (et_b (K := K) (b := []) (ed_var (i := 5) rfl (.bl _))) fun _ => et_b (K := K) (b := []) (ed_var (i := 6) rfl (.bl _))) fun D3 H3 x3 e3 => ?_)
  show tSeq _ _ _ [some (.ref p.1), some (.ref p1), some (.ref D2), some (.ref D3), none, none, none] H3
  have one : ∀ i, i < 12 → (List.range 12).filter (fun j => decide (j = i)) = [i] := by decide
  have same : (fun j => decide (j = i) && bs.getD j false) = fun j => decide (j = i) := by
    funext j
    by_cases h : j = i
    · rw [h, KC.bi, Bool.and_true]
    · rw [decide_eq_false h, Bool.false_and]
  have k1 : kSel (fun j => decide (j = i)) 12 = [V.str (kindN.getD i "")] := by
    unfold kSel
    rw [one i KC.lt]
    rfl
  rw [same, k1] at e3
  rw [k1] at e2
  have e23 := x3 _ _ e2
  have l2 : Dq K [] H3 (.ref D2) (.list [.str (kindN.getD i "")]) := .lst (.inl (.inl (by rw [hid0]; exact e23))) (.cons (.str _) .nil)
  have t1 : EvT (tTest (tOp rEq (tCB (rLen K) (tCons (tVar 2) tNil)) (tC (.int 1)))) [some (.ref p.1), some (.ref p1), some (.ref D2), some (.ref D3), none, none, none] H3 true := et_t (K := K) (b := []) (ed_op (ed_len (ed_var (i := 2) rfl l2) (.inr (.inl rfl)) fun y e => by cases e) (ed_int (i := 1)) fun H4 u v Q _ hu hv q => by
    have z1 := dq_int hu
    have z2 := dq_int hv
    subst z1 z2
    exact ⟨rfl, q _ H4 (Ex.refl H4) (.bl _)⟩)
  have t2 : EvT (tTest (tOp (rEqV K) (tVar 2) (tVar 3))) [some (.ref p.1), some (.ref p1), some (.ref D2), some (.ref D3), none, none, none] H3 true := fun H4 x4 Q q => ⟨.ref D2, rfl, .ref D3, rfl, 1, by decide, .inl ⟨D2, D3, _, _, rfl, rfl, .inl (.inl (x4 _ _ e23)), .inl (.inl (x4 _ _ e3)), .cons (.inl ⟨rfl, rfl⟩) .nil⟩, true, rfl, q H4 (Ex.refl H4)⟩
  have t12 := et_and t1 fun _ => t2
  refine t12 H3 (Ex.refl H3) _ fun H4 x4 => ?_
  show (if true = true then _ else _)
  rw [if_pos rfl]
  exact ⟨.ref D2, rfl, D2, _, 0, _, rfl, rfl, .inl (.inl (x4 _ _ e23)), rfl, q H4 (x1.trans (x2.trans (x3.trans x4)))⟩
end
end Wr

set_option Elab.async false
set_option linter.all false
set_option maxRecDepth 100000
set_option maxHeartbeats 4000000
namespace Wr
open PySem PySem.Spec PyProof.Rows L2
/-! ### two clauses 'except x as n' -/
/-- an exception on the ground, ahead of the clauses -/
structure Ld (X : Cx) (pins : List (Addr × Obj)) (a : Addr) (B : Heap) (σ : L2.St) (H : Hp) (sI s : Shared) (cls : Value) (d : Option Addr) : Prop where
  J : L2.Inv X pins σ H sI
  nb : ∀ b o, sI.heap.get? b = some o → b ∉ frs X.stack → B.get? b = some o
  up : sI.heap.UpToSlots s.heap
  fl : HandSPX.FlyingZ B (X.env :: X.outer) a (L2N.Zn cls d) s.heap
  na : H a = none
  os : s.os = sI.os
  ag : AllBare s.gens
/-- what a clause makes of it -/
def wCl (i : Nat) (ts : Addr → Value → Option Addr → TS) (D : Ends) (cls : Value) (d : Option Addr) (σ : L2.St) (H : Hp) : Prop := ∀ a, H a = none → ts a cls d { nx := fun σ' H' => D.nx (σ'.set i none) H', rt := D.rt, bk := fun σ' H' => D.bk (σ'.set i none) H', ct := fun σ' H' => D.ct (σ'.set i none) H' } (σ.set i (some (.ref a))) H
section
variable {X : Cx} {pins : List (Addr × Obj)} {a : Addr} {B : Heap} {σ : L2.St} {H : Hp} {sI s : Shared} {cls : Value} {d : Option Addr} {x n : Str} {c : Value} {i : Nat} {suite : List Stmt} {b₀ : Stmt} {np pos' : Pos} {ts : Addr → Value → Option Addr → TS} {more : List ExceptHandler} {D : Ends}
theorem Ld.no (L : Ld X pins a B σ H sI s cls d) (hf : X.env.frame = some X.env.locals) : ∃ oe vs, s.heap.get? a = some oe ∧ L2N.Zn cls d oe ∧ oe.data = .fields vs ∧ a ≠ X.env.locals ∧ a ∉ X.fs := by
  obtain ⟨oe, vs, e, z, dd⟩ := L.fl.there
  have nfr : a ∉ frs (X.env :: X.outer) := fun hm => by
    obtain ⟨_, o', e', hnf⟩ := L.fl.2.2.1.mem hm
    rw [e] at e'
    cases e'
    exact hnf _ dd
  exact ⟨oe, vs, e, z, dd, fun y => nfr (List.mem_filterMap.mpr ⟨X.env, List.mem_cons_self, y ▸ hf⟩), fun hm => let ⟨e, he, q⟩ := List.mem_filterMap.mp hm; nfr (List.mem_filterMap.mpr ⟨e, List.mem_cons_of_mem _ he, q⟩)⟩
theorem Ld.eval (L : Ld X pins a B σ H sI s cls d) (hf : X.env.frame = some X.env.locals) (hc : Names X x c) {Q : Value → Shared → Prop} {E : Value → Shared → Prop} (q : Q c s) : wpAny (model X.prog X.w) (X.A.mark (some (.ref a))) (eval (.Name x np) X.env) Q E s := by
  obtain ⟨oe, vs, e, z, dd, nL, nF⟩ := L.no hf
  have S := (L.J.landed L.nb L.fl.1 L.up L.os L.ag).suite e dd L.na nL nF
  rcases hc with ⟨hg, hdb, hm | ⟨hm, hv, hnn⟩⟩
  · exact ld_glob (X := X.suite a ((a, oe) :: (X.pn ++ pins))) S hg hm q hdb
  · exact ld_blt (X := X.suite a ((a, oe) :: (X.pn ++ pins))) S hg hm hv q hnn hdb
theorem Ld.match (L : Ld X pins a B σ H sI s cls d) (hf : X.env.frame = some X.env.locals) {k : Bool} (hk : PySem.W.exmOne X.K cls c = some k) {A : Around} {Q : Bool → Shared → Prop} {E : Value → Shared → Prop} (q : Q k s) : wpAny (model X.prog X.w) A (excMatches (.ref a) c) Q E s := by
  obtain ⟨oe, vs, e, z, dd, nL, nF⟩ := L.no hf
  have J := L.J.landed L.nb L.fl.1 L.up L.os L.ag
  have lt : PySem.W.Looks (model X.prog X.w) s.heap (typeOf (.ref a)) cls := fun A Q E s k q => wpAny_typeOf_ref (k _ _ e) (by rw [z.1]; exact q)
  exact (PySem.W.exm_one (M := model X.prog X.w) J.kIn lt hk).here q
/-- the clause doesn't name it -/
theorem Ld.pass (L : Ld X pins a B σ H sI s cls d) (hf : X.env.frame = some X.env.locals) (hc : Names X x c) (hk : PySem.W.exmOne X.K cls c = some false) {Q : Flow → Shared → Prop} {E : Value → Shared → Prop}
    (h : wpAny (model X.prog X.w) X.A (handleBy (.ref a) X.env more) Q E s) : wpAny (model X.prog X.w) X.A (handleBy (.ref a) X.env (.ExceptHandler (some (.Name x np)) (some n) (b₀ :: suite) pos' :: more)) Q E s :=
  wpAny_handleBy_cons (codeAny_handlers_test (L.eval hf hc (L.match hf hk h))) (by intro q; cases q)
/-- the clause takes it -/
theorem Ld.take (L : Ld X pins a B σ H sI s cls d) (hf : X.env.frame = some X.env.locals) (hN : X.N.Nodup) (hi : X.N[i]? = some n) (hln : X.env.kindOf n = some .local) (hc : Names X x c) (hk : PySem.W.exmOne X.K cls c = some true)
    (hsu : ∀ (a : Addr) (oe : Obj) (cls : Value) (d : Option Addr) (pn : List (Addr × Obj)), L2N.Zn cls d oe → (∃ vs, oe.data = .fields vs) → PSs (X.suite a ((a, oe) :: pn)) (b₀ :: suite) (ts a cls d)) (h : wCl i ts D cls d σ H) :
    wpAny (model X.prog X.w) X.A (handleBy (.ref a) X.env (.ExceptHandler (some (.Name x np)) (some n) (b₀ :: suite) pos' :: more)) (SP X pins D) X.xe s := by
  refine wpAny_handleBy_cons (codeAny_handlers_test (L.eval hf hc (L.match hf hk (codeAny_handlers_suite_as (HandSPX.lands_againZ L.fl fun h4 fl4 up4 => ?_))))) (by intro q; cases q)
  have L4 : Ld X pins a B σ H sI { s with heap := h4 } cls d := ⟨L.J, L.nb, L.up.trans up4, fl4, L.na, L.os, L.ag⟩
  obtain ⟨oe, vs, e, z, dd, nL, nF⟩ := L4.no hf
  have S := (L4.J.landed L4.nb L4.fl.1 L4.up L4.os L4.ag).suite e dd L4.na nL nF
  have okX := L.J.ok
  refine store_ok (X := X.suite a ((a, oe) :: (X.pn ++ pins))) (v := .ref a) S hN hi (.inl hln) rfl (fun s5 S5 => wpAny_mono ((hsu a oe cls d (X.pn ++ pins) z ⟨_, dd⟩).run [] s5 _ H _ S5 (h a L.na)) (fun f s6 hsp => ?_) (fun _ _ z => False.elim z)) (.inr hln)
  have fin : ∀ {σ6 : L2.St} {H6 : Hp} {Q : Shared → Prop}, L2.Inv (X.suite a ((a, oe) :: (X.pn ++ pins))) [] σ6 H6 s6 → (∀ s7, L2.Inv X pins (σ6.set i none) H6 s7 → Q s7) → wpAny (model X.prog X.w) X.A (do bindName X.env n .none; unbindBehindTheSuite X.env n pos') (fun _ s7 => Q s7) X.xe s6 := fun {σ6 H6 Q} S6 hq => gone_ok (S6.unsuite okX) hN hi hln hq
  rcases f with _ | _ | _ | u
  all_goals first
    | (obtain ⟨v6, σ6, H6, S6, r6, q6⟩ := hsp; exact fin S6 fun s7 J7 => ⟨_, _, _, J7, r6, q6⟩)
    | (obtain ⟨σ6, H6, S6, q6⟩ := hsp; exact fin S6 fun s7 J7 => ⟨_, _, J7, q6⟩)
end
section
variable {X : Cx} {x x2 n : Str} {c c2 : Value} {i : Nat} {body suite suite2 : List Stmt} {b₀ b2 : Stmt} {np np2 pos pos' pos2 : Pos} {tb : WX → TS} {ts ts2 : Addr → Value → Option Addr → TS}
/-- what goes to the first clause, or past it to the second -/
def wTwo (K : PySem.W.Frag) (c c2 : Value) (i : Nat) (ts ts2 : Addr → Value → Option Addr → TS) (D : Ends) : WX := fun cls d σ H => (PySem.W.exmOne K cls c = some true ∧ wCl i ts D cls d σ H) ∨ (PySem.W.exmOne K cls c = some false ∧ PySem.W.exmOne K cls c2 = some true ∧ wCl i ts2 D cls d σ H)
theorem ps_try_two (hst : X.stack = X.env :: X.outer) (hf : X.env.frame = some X.env.locals) (hN : X.N.Nodup) (hi : X.N[i]? = some n) (hln : X.env.kindOf n = some .local) (hc : Names X x c) (hc2 : Names X x2 c2)
    (hb : ∀ (W : WX) (pn : List (Addr × Obj)) (xe : Value → Shared → Prop), L2N.Takes (X.tr pn xe) W → PassesOwn (model X.prog X.w) X.A X.env xe → PSs (X.tr pn xe) body (tb W))
    (hsu : ∀ (a : Addr) (oe : Obj) (cls : Value) (d : Option Addr) (pn : List (Addr × Obj)), L2N.Zn cls d oe → (∃ vs, oe.data = .fields vs) → PSs (X.suite a ((a, oe) :: pn)) (b₀ :: suite) (ts a cls d))
    (hsu2 : ∀ (a : Addr) (oe : Obj) (cls : Value) (d : Option Addr) (pn : List (Addr × Obj)), L2N.Zn cls d oe → (∃ vs, oe.data = .fields vs) → PSs (X.suite a ((a, oe) :: pn)) (b2 :: suite2) (ts2 a cls d)) :
    PS X (.Try body [.ExceptHandler (some (.Name x np)) (some n) (b₀ :: suite) pos', .ExceptHandler (some (.Name x2 np2)) (some n) (b2 :: suite2) pos2] [] [] pos) (fun D σ H => tb (wTwo X.K c c2 i ts ts2 D) D σ H) := by
  refine ⟨fun pins s σ H D I h0 => ?_⟩
  have okX := I.ok
  have hfr : X.A.frames = some (X.env :: X.outer) := by rw [okX.frames, hst]
  refine wpAny_Try_except (wpAny_mono ((hb (wTwo X.K c c2 i ts ts2 D) (X.pn ++ pins) (fun e s₁ => wpAny (model X.prog X.w) X.A (noteFrame e X.env) (fun _ s₂ => wpAny (model X.prog X.w) X.A (setFlight e none) (fun _ s₃ => wpAny (model X.prog X.w) X.A (handleBy e X.env [.ExceptHandler (some (.Name x np)) (some n) (b₀ :: suite) pos', .ExceptHandler (some (.Name x2 np2)) (some n) (b2 :: suite2) pos2]) (SP X pins D) X.xe s₃) X.xe s₂) X.xe s₁) (fun u s' xx => ?_) PassesOwn.looking).run [] s σ H D (I.toTry _) h0) (fun f s1 hsp => ?_) (fun e s1 he => he))
  · obtain ⟨a, B, sI, pins', σ', H', cls, d, rfl, J', nb, up, sky, na, os, ag, w⟩ := xx
    have J : L2.Inv X pins σ' H' sI := J'.ofTry okX
    have sky' : Sky B (X.env :: X.outer) a (L2N.Zn cls d) X.env.locals s'.heap := hst ▸ sky
    show wpAny (model X.prog X.w) X.A (noteFrame (.ref a) X.env) _ _ _
    refine L2N.Sky.land L2N.Zn.steady hfr hf sky' fun h3 fl3 up3 => ?_
    have L : Ld X pins a B σ' H' sI { s' with heap := h3 } cls d := ⟨J, nb, up.trans up3, fl3, na, os, ag⟩
    rcases w with ⟨hk, hw⟩ | ⟨hk, hk2, hw⟩
    · exact L.take hf hN hi hln hc hk hsu hw
    · exact L.pass hf hc hk (L.take hf hN hi hln hc2 hk2 hsu2 hw)
  · rcases f with _ | _ | _ | u
    all_goals first
      | (obtain ⟨v, σ', H', J', r, q⟩ := hsp; exact ⟨v, σ', H', J'.ofTry okX, r, q⟩)
      | (obtain ⟨σ', H', J', q⟩ := hsp; exact wpAny_execs_nil ⟨σ', H', J'.ofTry okX, q⟩)
      | (obtain ⟨σ', H', J', q⟩ := hsp; exact ⟨σ', H', J'.ofTry okX, q⟩)
end
end Wr

set_option Elab.async false
set_option linter.all false
set_option maxRecDepth 100000
set_option maxHeartbeats 4000000
namespace Wr
open PySem PySem.Spec PyProof.Rows L2 HotX L2H
/-- as tCallE, of whatever object stands there -/
def tCallA (sp : Addr × Obj → Sp) (a : Addr) (cls : Value) (d : Option Addr) (t : TA) : TE := fun σ H Q => t σ H fun vs H1 => ∀ oe, L2N.Zn cls d oe → (∃ vs, oe.data = .fields vs) → sp (a, oe) vs H1 Q fun _ _ _ => False
section
variable {X : Cx} {k : Nat} {f a : Addr} {fd : FuncData} {ps : List Str} {sp : Addr × Obj → Sp} {x : Str} {q pos : Pos} {e : Expr} {es : List Expr} {t : TA} {oe : Obj} {cls : Value} {d : Option Addr} {pn : List (Addr × Obj)}
theorem pe_callA (hz : L2N.Zn cls d oe) (hf : ∃ vs, oe.data = .fields vs) (F : FnE X.prog X.w X.K X.mg X.base k f fd ps sp) (hr : RoomH k (X.A.mark (some (.ref a)))) (hg : Gl X x) (hm : X.mg x = some (.ref f)) (hk : PySem.W.keepIn X.K (.ref f) = true) (hb : Binds X.K fd ps []) (ha : PA (X.suite a ((a, oe) :: pn)) (e :: es) t)
    (hdb : (x == ("__debug__" : Str)) = false := by decide) (he : starEach (e :: es) X.env = (false, eval e X.env) :: starEach es X.env := by rfl) (hpl : (backTo pos (starEach es X.env)).any (·.1) = false := by rfl) : PE (X.suite a ((a, oe) :: pn)) (.Call (.Name x q) (e :: es) [] pos) (tCallA sp a cls d t) := by
  refine ⟨fun pins s σ H Q I h => wpAny_Call_Name_kw (ld_glob I hg hm (PySem.W.callWith_K (h₀ := X.base) I.ok.mod.kin hk (thn (ha.run pos pins s σ H _ I h) fun us s1 ⟨vs, H1, I1, r, q0⟩ => ⟨I1.kIn, ?_⟩) he hpl) hdb)⟩
  have q1 := q0 oe hz hf
  have hl : us.length = ps.length := by rw [← r.length]; exact F.len _ _ _ _ _ q1
  have b := hb s1 us I1.kIn (by rw [List.append_nil]; exact hl)
  rw [List.append_nil] at b
  have at1 := I1.pin (a, oe) (List.mem_append_left _ List.mem_cons_self)
  have nf : a ∉ frs X.stack := fun hm => (List.mem_cons.mp (I1.stkSub a hm)).elim at1.2.2.1 at1.2.2.2.1
  obtain ⟨fv, hv⟩ := hf
  refine wpAny_call (codeAny_mono (F.run (a, oe) (X.A.mark (some (.ref a))) X.stack s1 H1 ⟨us, []⟩ us vs Q _ hr ⟨rfl, fv, hv, hz.2.2 fv hv⟩ ⟨at1.1, at1.2.1, nf, at1.2.2.2.2⟩ I1.env0 b r q1) fun r s' hq => ?_)
  rcases r with e | fl
  · exact hq.elim
  · rcases fl with _ | _ | _ | u
    all_goals first
      | exact I1.after hq
      | exact False.elim hq
end
end Wr

set_option Elab.async false
set_option linter.all false
set_option maxRecDepth 100000
set_option maxHeartbeats 4000000
namespace PySem.W
open PySem PySem.Calls PyProof.Rows
section
variable {M : Model} {K : Frag}
theorem exm_tupN {cs : List Value} {cls : Value} {tp e : Addr} {b : Bool} {h : Heap} (X : K.In h) (LT : Looks M h (typeOf (.ref e)) cls) (hp : h.get? tp = some { cls := .type "tuple", data := .seq cs.toArray }) (hx : exmAny K cls cs = some b) :
    Looks M h (excMatches (.ref e) (.ref tp)) b := by
  intro A Q E s k₀ q
  obtain ⟨hh, g, d, tk, os⟩ := s
  have k : ∀ b o, h.get? b = some o → hh.get? b = some o := k₀
  have LT0 : Looks M h (isInstance (.ref tp) (.type "tuple")) true := ((Looks.ld hp).andThen .now).andThen (Looks.of_pure isSubtype_tuple_tuple)
  have LT := LT.keeps k
  have LT0 := LT0.keeps k
  have hp' := k _ _ hp
  unfold excMatches
  refine wpAny_bind (LT0.at ?_)
  dsimp only
  rw [if_pos rfl]
  first
    | refine wpAny_bind (wpAny_seqItems hp' rfl ?_)
    | refine wpAny_bind (wpAny_bind (wpAny_seqItems hp' rfl (wpAny_pure ?_)))
  dsimp only [Option.getD_some, Option.getD]
  refine wpAny_bind (wpAny_pure ?_)
  have first : wpAny M A (forIn cs PUnit.unit fun c _ => do
      let __do_lift ← isExcClass c
      if (!__do_lift) = true then do
          rule "try.except-non-exception-class"
          raiseErrorWords "TypeError" "catching classes that do not inherit from BaseException is not allowed"
          pure (ForInStep.yield PUnit.unit)
        else pure (ForInStep.yield PUnit.unit)) (fun _ s => s = ⟨hh, g, d, tk, os⟩) E ⟨hh, g, d, tk, os⟩ := by
    refine wpAny_forIn_list _ (fun rest _ s => s = ⟨hh, g, d, tk, os⟩ ∧ ∃ b', exmAny K cls rest = some b') _ ?_ (fun _ _ h => h.1) cs _ ⟨rfl, b, hx⟩
    rintro x rest _ s ⟨rfl, b', hb⟩
    obtain ⟨b1, d1, x1, y1, _⟩ := exmAny_cons hb
    obtain ⟨e1, _⟩ := exm_cls (M := M) X x1
    refine wpAny_bind ((e1.keeps k).here ?_)
    rw [if_neg (by decide)]
    exact wpAny_pure ⟨rfl, d1, y1⟩
  refine wpAny_bind (wpAny_mono first (fun _ s es => ?_) fun _ _ z => z)
  subst es
  refine wpAny_bind (LT.here ?_)
  have second : wpAny M A (forIn cs ((none, ()) : Option Bool × Unit) fun c _ => do
      let __do_lift ← isSubtype cls c
      if __do_lift = true then pure (ForInStep.done (some true, ())) else pure (ForInStep.yield (none, ()))) (fun r s => s = ⟨hh, g, d, tk, os⟩ ∧ ((r = (some true, ()) ∧ b = true) ∨ (r = (none, ()) ∧ b = false))) E ⟨hh, g, d, tk, os⟩ := by
    refine wpAny_forIn_list _ (fun rest r s => s = ⟨hh, g, d, tk, os⟩ ∧ r = (none, ()) ∧ exmAny K cls rest = some b) _ ?_ (fun r s h => ?_) cs _ ⟨rfl, rfl, hx⟩
    · rintro x rest _ s ⟨rfl, rfl, hb⟩
      obtain ⟨b1, d1, x1, y1, eb⟩ := exmAny_cons hb
      obtain ⟨_, S1⟩ := exm_cls (M := M) X x1
      refine wpAny_bind ((S1.keeps k).here ?_)
      cases b1 with
      | true =>
        rw [if_pos rfl]
        exact wpAny_pure ⟨rfl, .inl ⟨rfl, by rw [eb]; rfl⟩⟩
      | false =>
        rw [if_neg Bool.false_ne_true]
        refine wpAny_pure ⟨rfl, rfl, ?_⟩
        rw [y1, eb]
        rfl
    · obtain ⟨h1, h2, h3⟩ := h
      have h3 : some false = some b := h3
      exact ⟨h1, .inr ⟨h2, (Option.some.inj h3).symm⟩⟩
  refine wpAny_bind (wpAny_mono second (fun r s hr => ?_) fun _ _ z => z)
  obtain ⟨rfl, ⟨rfl, rfl⟩ | ⟨rfl, rfl⟩⟩ := hr
  · exact wpAny_pure q
  · exact wpAny_pure q
end
end PySem.W
namespace Wr
open PySem PySem.Spec PyProof.Rows L2 Evl L2H
/-! ### except (C, ..) as n -/
theorem flyZ_keeps {B h h' : Heap} {l : List Env} {e : Addr} {Z : Obj → Prop} (x : HandSPX.FlyingZ B l e Z h) (k : ∀ b o, h.get? b = some o → h'.get? b = some o) : HandSPX.FlyingZ B l e Z h' := by
  obtain ⟨f1, f2, f3, oe, ws, T, oT, ts, he, hc, hd, h1, hn, hne, hT, hdT, h3⟩ := x
  exact ⟨fun b o q => k b o (f1 b o q), f2, f3.of_keeps fun b o q _ => ⟨o, k b o q, rfl⟩, oe, ws, T, oT, ts, k _ _ he, hc, hd, h1, hn, hne, k _ _ hT, hdT, h3⟩
/-- names of classes, each as it stands -/
inductive NamesL (X : Cx) : List Expr → List Value → Prop
  | nil : NamesL X [] []
  | cons {x : Str} {np : Pos} {c : Value} {es : List Expr} {cs : List Value} (h : Names X x c) (he : starEach (.Name x np :: es) X.env = (false, eval (.Name x np) X.env) :: starEach es X.env) (r : NamesL X es cs) : NamesL X (.Name x np :: es) (c :: cs)
theorem NamesL.len {X : Cx} {es : List Expr} {cs : List Value} (h : NamesL X es cs) : es.length = cs.length := by
  induction h with
  | nil => rfl
  | cons _ _ _ ih => rw [List.length_cons, List.length_cons, ih]
section
variable {X : Cx} {pins : List (Addr × Obj)} {a : Addr} {B : Heap} {σ : L2.St} {H : Hp} {sI s : Shared} {cls : Value} {d : Option Addr} {n : Str} {i kk : Nat} {suite : List Stmt} {b₀ : Stmt} {pos' tpos : Pos} {ts : Addr → Value → Option Addr → TS} {more : List ExceptHandler} {D : Ends} {elts : List Expr} {cs : List Value}
theorem Ld.items (L : Ld X pins a B σ H sI s cls d) (hf : X.env.frame = some X.env.locals) (hn : NamesL X elts cs) {Q : List Value → Shared → Prop} {E : Value → Shared → Prop} (q : Q cs s) : wpAny (model X.prog X.w) (X.A.mark (some (.ref a))) (spliced (backTo tpos (starEach elts X.env))) Q E s := by
  induction hn generalizing Q with
  | nil => exact wpAny_items_nil q
  | cons h he r ih => exact wpAny_items_cons (L.eval hf h (ih q)) he
theorem Ld.takeT (L : Ld X pins a B σ H sI s cls d) (hf : X.env.frame = some X.env.locals) (hN : X.N.Nodup) (hi : X.N[i]? = some n) (hln : X.env.kindOf n = some .local) (hn : NamesL X elts cs) (hl : elts.length ≤ 1000) (hk : PySem.W.exmAny X.K cls cs = some true)
    (hsu : ∀ (a : Addr) (oe : Obj) (cls : Value) (d : Option Addr) (pn : List (Addr × Obj)), L2N.Zn cls d oe → (∃ vs, oe.data = .fields vs) → PSs (X.suite a ((a, oe) :: pn)) (b₀ :: suite) (ts a cls d)) (h : wCl i ts D cls d σ H) :
    wpAny (model X.prog X.w) X.A (handleBy (.ref a) X.env (.ExceptHandler (some (.Tuple elts kk tpos)) (some n) (b₀ :: suite) pos' :: more)) (SP X pins D) X.xe s := by
  refine wpAny_handleBy_cons (codeAny_handlers_test (wpAny_Tuple (L.items hf hn ⟨by rw [← hn.len, sizeLine_eq]; omega, ?_⟩))) (by intro q; cases q)
  have kp : ∀ b o, s.heap.get? b = some o → (s.heap.push { cls := .type "tuple", data := .seq cs.toArray }).get? b = some o := fun _ _ z => Heap.get?_push_of_some _ z
  have L1 : Ld X pins a B σ H sI { s with heap := s.heap.push { cls := .type "tuple", data := .seq cs.toArray } } cls d := ⟨L.J, L.nb, L.up.trans (Heap.UpToSlots.of_keeps kp), flyZ_keeps L.fl kp, L.na, L.os, L.ag⟩
  obtain ⟨oe1, vs1, e1, z1, dd1, nL1, nF1⟩ := L1.no hf
  have J1 := L1.J.landed L1.nb L1.fl.1 L1.up L1.os L1.ag
  have lt : PySem.W.Looks (model X.prog X.w) (s.heap.push { cls := .type "tuple", data := .seq cs.toArray }) (typeOf (.ref a)) cls := fun A Q E s k q => wpAny_typeOf_ref (k _ _ e1) (by rw [z1.1]; exact q)
  refine (PySem.W.exm_tupN (M := model X.prog X.w) J1.kIn lt (Heap.get?_push_size s.heap rfl) hk).here ?_
  refine codeAny_handlers_suite_as (HandSPX.lands_againZ L1.fl fun h4 fl4 up4 => ?_)
  have L4 : Ld X pins a B σ H sI { s with heap := h4 } cls d := ⟨L1.J, L1.nb, L1.up.trans up4, fl4, L1.na, L1.os, L1.ag⟩
  obtain ⟨oe, vs, e, z, dd, nL, nF⟩ := L4.no hf
  have S := (L4.J.landed L4.nb L4.fl.1 L4.up L4.os L4.ag).suite e dd L4.na nL nF
  have okX := L.J.ok
  refine store_ok (X := X.suite a ((a, oe) :: (X.pn ++ pins))) (v := .ref a) S hN hi (.inl hln) rfl (fun s5 S5 => wpAny_mono ((hsu a oe cls d (X.pn ++ pins) z ⟨_, dd⟩).run [] s5 _ H _ S5 (h a L.na)) (fun f s6 hsp => ?_) (fun _ _ z => False.elim z)) (.inr hln)
  have fin : ∀ {σ6 : L2.St} {H6 : Hp} {Q : Shared → Prop}, L2.Inv (X.suite a ((a, oe) :: (X.pn ++ pins))) [] σ6 H6 s6 → (∀ s7, L2.Inv X pins (σ6.set i none) H6 s7 → Q s7) → wpAny (model X.prog X.w) X.A (do bindName X.env n .none; unbindBehindTheSuite X.env n pos') (fun _ s7 => Q s7) X.xe s6 := fun {σ6 H6 Q} S6 hq => gone_ok (S6.unsuite okX) hN hi hln hq
  rcases f with _ | _ | _ | u
  all_goals first
    | (obtain ⟨v6, σ6, H6, S6, r6, q6⟩ := hsp; exact fin S6 fun s7 J7 => ⟨_, _, _, J7, r6, q6⟩)
    | (obtain ⟨σ6, H6, S6, q6⟩ := hsp; exact fin S6 fun s7 J7 => ⟨_, _, J7, q6⟩)
end
section
variable {X : Cx} {n : Str} {i kk : Nat} {body suite : List Stmt} {b₀ : Stmt} {pos pos' tpos : Pos} {tb : WX → TS} {ts : Addr → Value → Option Addr → TS} {elts : List Expr} {cs : List Value}
def wTup (K : PySem.W.Frag) (cs : List Value) (i : Nat) (ts : Addr → Value → Option Addr → TS) (D : Ends) : WX := fun cls d σ H => PySem.W.exmAny K cls cs = some true ∧ wCl i ts D cls d σ H
theorem ps_try_tup (hst : X.stack = X.env :: X.outer) (hf : X.env.frame = some X.env.locals) (hN : X.N.Nodup) (hi : X.N[i]? = some n) (hln : X.env.kindOf n = some .local) (hn : NamesL X elts cs) (hl : elts.length ≤ 1000)
    (hb : ∀ (W : WX) (pn : List (Addr × Obj)) (xe : Value → Shared → Prop), L2N.Takes (X.tr pn xe) W → PassesOwn (model X.prog X.w) X.A X.env xe → PSs (X.tr pn xe) body (tb W))
    (hsu : ∀ (a : Addr) (oe : Obj) (cls : Value) (d : Option Addr) (pn : List (Addr × Obj)), L2N.Zn cls d oe → (∃ vs, oe.data = .fields vs) → PSs (X.suite a ((a, oe) :: pn)) (b₀ :: suite) (ts a cls d)) :
    PS X (.Try body [.ExceptHandler (some (.Tuple elts kk tpos)) (some n) (b₀ :: suite) pos'] [] [] pos) (fun D σ H => tb (wTup X.K cs i ts D) D σ H) := by
  refine ⟨fun pins s σ H D I h0 => ?_⟩
  have okX := I.ok
  have hfr : X.A.frames = some (X.env :: X.outer) := by rw [okX.frames, hst]
  refine wpAny_Try_except (wpAny_mono ((hb (wTup X.K cs i ts D) (X.pn ++ pins) (fun e s₁ => wpAny (model X.prog X.w) X.A (noteFrame e X.env) (fun _ s₂ => wpAny (model X.prog X.w) X.A (setFlight e none) (fun _ s₃ => wpAny (model X.prog X.w) X.A (handleBy e X.env [.ExceptHandler (some (.Tuple elts kk tpos)) (some n) (b₀ :: suite) pos']) (SP X pins D) X.xe s₃) X.xe s₂) X.xe s₁) (fun u s' xx => ?_) PassesOwn.looking).run [] s σ H D (I.toTry _) h0) (fun f s1 hsp => ?_) (fun e s1 he => he))
  · obtain ⟨a, B, sI, pins', σ', H', cls, d, rfl, J', nb, up, sky, na, os, ag, w⟩ := xx
    have J : L2.Inv X pins σ' H' sI := J'.ofTry okX
    have sky' : Sky B (X.env :: X.outer) a (L2N.Zn cls d) X.env.locals s'.heap := hst ▸ sky
    show wpAny (model X.prog X.w) X.A (noteFrame (.ref a) X.env) _ _ _
    refine L2N.Sky.land L2N.Zn.steady hfr hf sky' fun h3 fl3 up3 => ?_
    have L : Ld X pins a B σ' H' sI { s' with heap := h3 } cls d := ⟨J, nb, up.trans up3, fl3, na, os, ag⟩
    exact L.takeT hf hN hi hln hn hl w.1 hsu w.2
  · rcases f with _ | _ | _ | u
    all_goals first
      | (obtain ⟨v, σ', H', J', r, q⟩ := hsp; exact ⟨v, σ', H', J'.ofTry okX, r, q⟩)
      | (obtain ⟨σ', H', J', q⟩ := hsp; exact wpAny_execs_nil ⟨σ', H', J'.ofTry okX, q⟩)
      | (obtain ⟨σ', H', J', q⟩ := hsp; exact ⟨σ', H', J'.ofTry okX, q⟩)
end
/-! ### a call of one of several defs, out of a list -/
structure HeldNo (P : Program) (w : World) (K : PySem.W.Frag) (mg : Str → Option Value) (base : Heap) (C f : Addr) (n : Nat) : Prop where
  ex : ∃ (fd : FuncData) (ps : List Str) (ds : List Value) (dvs : List V), FnOk P w K mg base (L2N.CX P w) 8 f fd ps (spNo K C (n + dvs.length)) ∧ PySem.W.keepIn K (.ref f) = true ∧ Binds K fd ps ds ∧ Vals dvs ds
theorem FnOk.up {P : Program} {w : World} {K : PySem.W.Frag} {mg : Str → Option Value} {base : Heap} {CX : CXT} {k k' : Nat} {f : Addr} {fd : FuncData} {ps : List Str} {sp : Sp} (F : FnOk P w K mg base CX k f fd ps sp) (h : k ≤ k') : FnOk P w K mg base CX k' f fd ps sp :=
  ⟨F.len, fun A outer s H args us vs Q E hr e0 hb rv hsp => F.run A outer s H args us vs Q E (hr.mono h) e0 hb rv hsp⟩
def tCallV (P : Program) (w : World) (K : PySem.W.Frag) (mg : Str → Option Value) (base : Heap) (C : Addr) (n : Nat) (E : L2.St → XK) (tf : TE) (t : TA) : TE := fun σ H Q => tf σ H fun v H1 => ∃ f, v = .ref f ∧ HeldNo P w K mg base C f n ∧ t σ H1 fun vs H2 => spNo K C n vs H2 Q (E σ)
theorem pe_callV {X : Cx} {C : Addr} {n : Nat} {E : L2.St → XK} {fe ie e : Expr} {es : List Expr} {p1 pos : Pos} {tf : TE} {t : TA} (hf : PE X (.Subscript fe ie p1) tf) (hr : Room 8 X.A) (hx : ∀ σ, PassesAt (L2N.CX X.prog X.w) X σ (E σ)) (ha : PA X (e :: es) t)
    (he : starEach (e :: es) X.env = (false, eval e X.env) :: starEach es X.env := by rfl) (hpl : (backTo pos (starEach es X.env)).any (·.1) = false := by rfl) : PE X (.Call (.Subscript fe ie p1) (e :: es) [] pos) (tCallV X.prog X.w X.K X.mg X.base C n E tf t) := by
  refine ⟨fun pins s σ H Q I h => ?_⟩
  have arm : eval (.Call (.Subscript fe ie p1) (e :: es) [] pos) X.env = (do callWith pos (← eval (.Subscript fe ie p1) X.env) [] (backTo pos (starEach (e :: es) X.env)) (backToKw pos (keywordEach [] X.env))) := rfl
  rw [arm]
  refine wpAny_bind (thn (hf.run pins s σ H _ I h) fun u s1 ⟨v, H1, I1, r1, f, ev, hh, q1⟩ => ?_)
  subst ev
  cases r1
  obtain ⟨fd, ps, ds, dvs, F, hk, hb, hd⟩ := hh.ex
  refine PySem.W.callWith_K (h₀ := X.base) I.ok.mod.kin hk (thn (ha.run pos pins s1 σ _ _ I1 q1) fun us s2 ⟨vs, H2, I2, r, q⟩ => ⟨I2.kIn, ?_⟩) he hpl
  refine run_fnSD F hr hb hd (hx σ) I2 r ?_
  obtain ⟨b, v, vs', d, rfl, hl, kn, h1, ho, hp, q3⟩ := q
  exact ⟨b, v, vs' ++ dvs, d, rfl, by rw [List.length_append, hl], kn, h1, ho, hp, q3⟩
/-! ### calls with keywords, where what is raised is wished for at the slots -/
section
variable {X : Cx} {CX : CXT} {k n : Nat} {f C : Addr} {fd : FuncData} {ps ks : List Str} {sp : Sp} {E : L2.St → XK} {x : Str} {p pos : Pos} {e : Expr} {es : List Expr} {kws : List Keyword} {t tk : TA} {g : List Value → List Value → List Value} {gV : List V → List V → List V}
def tCallNS (n m : Nat) (sp : Sp) (gV : List V → List V → List V) (E : L2.St → XK) (t tk : TA) : TE := fun σ H Q => t σ H fun vs H1 => tk σ H1 fun zs H2 => vs.length = n ∧ zs.length = m ∧ sp (gV vs zs) H2 Q (E σ)
theorem pe_callNS (F : FnOk X.prog X.w X.K X.mg X.base CX k f fd ps sp) (hr : Room k X.A) (hg : Gl X x) (hm : X.mg x = some (.ref f)) (hk : PySem.W.keepIn X.K (.ref f) = true) (hb : KBn X.K fd ps n ks g gV) (hx : ∀ σ, PassesAt CX X σ (E σ))
    (ha : PA X (e :: es) t) (hkw : PK X kws tk) (hall : (backToKw pos (keywordEach kws X.env)).all (·.1.isSome) = true := by rfl) (hks : (backToKw pos (keywordEach kws X.env)).filterMap (·.1) = ks := by rfl)
    (hdb : (x == ("__debug__" : Str)) = false := by decide) (he : starEach (e :: es) X.env = (false, eval e X.env) :: starEach es X.env := by rfl)
    (hpl : ((backTo pos (starEach (e :: es) X.env)).any (·.1) || (backToKw pos (keywordEach kws X.env)).any (·.1.isNone)) = false := by rfl) :
    PE X (.Call (.Name x p) (e :: es) kws pos) (tCallNS n ks.length sp gV E t tk) := by
  refine ⟨fun pins s σ H Q I h => ?_⟩
  refine wpAny_Call_Name_kw (ld_glob I hg hm ?_ hdb)
  refine PySem.W.callWith_KW (h₀ := X.base) I.ok.mod.kin hk hall (thn (ha.run pos pins s σ H _ I h) fun us s1 ⟨vs, H1, I1, r, q⟩ => ?_) hpl he
  refine thn (hkw.run pos pins s1 σ H1 _ I1 q) fun ws s2 ⟨zs, H2, I2, rz, l1, l2, q2⟩ => ⟨I2.kIn, ?_⟩
  rw [hks]
  have r2 := hb.rel r rz
  refine wpAny_call (codeAny_mono (F.run X.A X.stack s2 H2 ⟨us, ks.zip ws⟩ (g us ws) (gV vs zs) Q (E σ) hr I2.env0 (hb.to s2 us ws I2.kIn (r.length.symm.trans l1) (rz.length.symm.trans l2)) r2 q2) fun r s' hq => ?_)
  cases r with
  | error e => exact hx σ pins H2 s2 e s' I2 hq
  | ok fl =>
    cases fl with
    | ret u => exact I2.after hq
    | next => exact False.elim hq
    | brk => exact False.elim hq
    | cont => exact False.elim hq
def tMakeKS (C : Addr) (n m : Nat) (sp : Sp) (gV : List V → List V → List V) (E : L2.St → XK) (t tk : TA) : TE := fun σ H Q => t σ H fun vs H1 => tk σ H1 fun zs H2 => vs.length = n ∧ zs.length = m ∧ ∀ x dx, H2 x = none → H2 dx = none → dx ≠ x →
  sp (gV (.ref x :: vs) zs) (upd (upd H2 dx (.own x)) x (.ins C dx [])) (fun v H3 => v = .non ∧ Q (.ref x) H3) (E σ)
theorem pe_makeKS (M : Mk X.K C f) (F : FnOk X.prog X.w X.K X.mg X.base CX k f fd ps sp) (hr : Room (k + 1) X.A) (hg : Gl X x) (hm : X.mg x = some (.ref C)) (hb : KBn X.K fd ps (n + 1) ks g gV) (hx : ∀ σ, PassesAt CX X σ (E σ)) (ha : PA X (e :: es) t) (hkw : PK X kws tk)
    (hall : (backToKw pos (keywordEach kws X.env)).all (·.1.isSome) = true := by rfl) (hks : (backToKw pos (keywordEach kws X.env)).filterMap (·.1) = ks := by rfl) (hdb : (x == ("__debug__" : Str)) = false := by decide)
    (he : starEach (e :: es) X.env = (false, eval e X.env) :: starEach es X.env := by rfl) (hpl : ((backTo pos (starEach (e :: es) X.env)).any (·.1) || (backToKw pos (keywordEach kws X.env)).any (·.1.isNone)) = false := by rfl) :
    PE X (.Call (.Name x p) (e :: es) kws pos) (tMakeKS C n ks.length sp gV E t tk) := by
  refine ⟨fun pins s σ H Q I h => ?_⟩
  refine wpAny_Call_Name_kw (ld_glob I hg hm ?_ hdb)
  refine PySem.W.callWith_KW (h₀ := X.base) I.ok.mod.kin M.kp hall (thn (ha.run pos pins s σ H _ I h) fun us s1 ⟨vs, H1, I1, r, q⟩ => ?_) hpl he
  refine thn (hkw.run pos pins s1 σ H1 _ I1 q) fun ws s2 ⟨zs, H2, I2, rz, l1, l2, q2⟩ => ⟨I2.kIn, ?_⟩
  rw [hks]
  have hq := q2 (s2.heap.objs.size + 1) s2.heap.objs.size (I2.hok.fresh (Nat.le_succ _)) (I2.hok.fresh (Nat.le_refl _)) (Nat.ne_of_lt (Nat.lt_succ_self _))
  have I3 := Inv.made (C := C) I2
  have r1 : Vals (V.ref (s2.heap.objs.size + 1) :: vs) (Value.ref (s2.heap.objs.size + 1) :: us) := .cons rfl r
  have r2 := hb.rel r1 rz
  have n1 : (Value.ref (s2.heap.objs.size + 1) :: us).length = n + 1 := by
    rw [List.length_cons, ← r.length, l1]
  refine wpAny_call (make_map (f := f) I2.kIn M.makes M.init (beq_iff_eq.mp M.fn) (codeAny_mono (F.run _ X.stack _ _ ⟨Value.ref (s2.heap.objs.size + 1) :: us, ks.zip ws⟩ (g (Value.ref (s2.heap.objs.size + 1) :: us) ws) _ _ (E σ) (hr.make C us (ks.zip ws))
    (I3.env0.make C us (ks.zip ws)) (hb.to _ (Value.ref (s2.heap.objs.size + 1) :: us) ws I3.kIn n1 (rz.length.symm.trans l2)) r2 hq) fun r s' hq' => ?_))
  cases r with
  | error e => exact hx σ pins _ _ e s' I3 hq'
  | ok fl =>
    cases fl with
    | ret u =>
      obtain ⟨v, H', I4, rv, ev, q3⟩ := I3.after hq'
      subst ev
      exact ⟨rv, ⟨V.ref (s2.heap.objs.size + 1), H', I4, rfl, q3⟩⟩
    | next => exact False.elim hq'
    | brk => exact False.elim hq'
    | cont => exact False.elim hq'
end
end Wr

set_option Elab.async false
set_option linter.all false
set_option maxRecDepth 100000
set_option maxHeartbeats 4000000
namespace Wr
open PySem PySem.Spec PyProof.Rows L2 Evl
/-! ### odd, none -/
abbrev NOd : List Str := ["_law_bag_here", "_law_some"]
theorem sc_od : FnScope NOd ["_law_bag_here"] (defScope s_od) := ⟨rfl, rfl, rfl, by decide +kernel, rfl, by decide +kernel, by decide +kernel⟩
abbrev NNo : List Str := ["_law_bag_here", "_law_good", "_law_head", "_law_rest", "_law_some", "_law_rows"]
theorem sc_no : FnScope NNo ["_law_bag_here"] (defScope s_no) := ⟨rfl, rfl, rfl, by decide +kernel, rfl, by decide +kernel, by decide +kernel⟩
def oddL : List PyData := [.none, .bool true, .int 0, .int (-1), .int 1000000000000000000000000000000000000000, .str "", .str "main", .str "a", .list [], .tuple [], .list [.list [.str "a"]], .tuple [.str "call"], .str "no part"]
def rs1 : PyData := .tuple [.tuple [.str "get", .str "a"], .tuple [.str "back"]]
def gd1 : PyData := .tuple [.str "main", .tuple [.str "a"], rs1]
def gd2 : PyData := .tuple [.str "other", .tuple [], .tuple [.tuple [.str "put", .int 1], .tuple [.str "throw"]]]
def goodL : List PyData := [gd1, gd2]
def some1 : List PyData := [.tuple [], .list [], .none, .int 5, .bool true, .str "main", .list goodL, .tuple (goodL ++ [gd1]), .tuple [.tuple goodL], .tuple ([.tuple [.str "main", .tuple [.str "a"]]] ++ [gd2]), gd1]
def some2 : List PyData := [.tuple [.tuple [.str "main", .list [.str "a"], rs1]], .tuple [.tuple [.str "main", .tuple [.str "a", .str "a"], rs1]], .tuple ([.tuple [.str "Main", .tuple [], rs1]] ++ [gd2])]
def rows3 : List PyData := [.tuple [], .tuple [.tuple [.str "go", .int 1]], .tuple [.tuple [.str "try", .int 1], .tuple [.str "back"]], .tuple [.tuple [.str "call", .str "none"]], .tuple [.tuple [.str "put", .bool true]], .tuple [.list [.str "back"]]]
def rows4 : List PyData := [.tuple [.tuple [.str "put", .int (1000000000000 + 1)]], .tuple [.tuple [.str "add", .int 1]], .tuple [.str "back"], .tuple [.tuple [.str "put"]], .tuple [.tuple [.str "get", .str "A"]], .tuple [.tuple [.str "if", .int (-1)]]]
def part3 (r : PyData) : PyData := .tuple ([.tuple [.str "main", .tuple [], r]] ++ [gd2])
def part4 (r : PyData) : PyData := .tuple [.tuple [.str "main", .tuple [], r]]
def noneL : List PyData := ((some1 ++ some2) ++ rows3.map part3) ++ rows4.map part4
theorem none_all {d : PyData} (h : d ∈ noneL) : okD 30 d = true ∧ progD d = false := by
  have q : (noneL.all fun d => okD 30 d && !progD d) = true := by decide +kernel
  have := List.all_eq_true.mp q d h
  rw [Bool.and_eq_true, Bool.not_eq_true'] at this
  exact this
def rListOf (K : PySem.W.Frag) : List V → Hp → VK → Prop := fun xs H Q => ∃ p ys, xs = [.ref p] ∧ (SqL K H p ys ∨ SqT K H p ys) ∧ ∀ l, H l = none → Q (.ref l) (upd H l (.lst ys))
theorem call_listF {X : Cx} : CallR X (.type "list") (rListOf X.K) := call_list_of
section
variable {K : PySem.W.Frag} {b : List Addr} {σ : L2.St} {H H' : Hp} {ta te : TE} {t : TA} {d : PyData} {ds es : List PyData} {D : Ends} {ts : TS}
theorem ed_listOf (kn : Kn b H) (ha : ED K b ta σ H (.tuple ds)) : ED K b (tCB (rListOf K) (tCons ta tNil)) σ H (.list ds) := fun H1 x1 Q q =>
  ha H1 x1 _ fun v H2 x2 hv => by
    cases hv with
    | tup g1 gn g2 =>
      refine ⟨_, _, rfl, .inr (ex_t hid_le g1), fun l hl => ?_⟩
      have kn2 := kn.up (x1.trans x2)
      exact q _ _ (x2.trans (Ex.new hl)) (.lst (.inl (.inl (hid_new (kn2.new hl)))) (DqAll.up g2 (Ex.new hl)))
theorem g_app {j : Nat} {F : Addr} {vs : List V} (hσ : σ[j]? = some (some (.ref F))) (hF : H F = some (.lst vs)) (hl : vs.length < 10000000) (he : ED K b te σ H d) (kk : ∀ y H', Ex H H' → Dq K b H' y d → D.nx σ (upd H' F (.lst (vs ++ [y])))) : tDrop (tBM K "list" rAppend (tVar j) (tCons te tNil)) D σ H :=
  ⟨.ref F, hσ, .inl ⟨rfl, _, .inl (.inl hF)⟩, he H (Ex.refl H) _ fun y H' x hy => ⟨F, vs, y, rfl, rfl, x _ _ hF, by rw [sizeLine_eq]; omega, kk y H' x hy⟩⟩
theorem dps_hide {D : Addr} {vs : List V} (h : DqAll K b H vs ds) (hD : H D = none) : DqAll K (D :: b) H vs ds := dps_ex (hide_ex hD) ds vs h
/-- x = x + [..], the new list hidden from now on -/
theorem g_catH {i : Nat} {p : Addr} {vs : List V} (hs : σ[i]? = some (some (.ref p))) (hp : H p = some (.lst vs)) (hv : DqAll K b H vs ds) (he : EA K b t σ H es) (hl : ds.length + es.length ≤ sizeLine) (k : ∀ F us H5 H', Ex H H5 → H5 F = none → Ex H5 H' → H' F = some (.lst us) → DqAll K (F :: b) H' us (ds ++ es) → ts D (σ.set i (some (.ref F))) H') : tSeq (tAsg (tOp rCat (tVar i) (tLst t)) (gName i)) ts D σ H :=
  ⟨.ref p, hs, he H (Ex.refl H) _ fun ws H1 x1 hw => ⟨by rw [dps_len hw]; omega, fun p1 hp1 => ⟨p, p1, vs, ws, rfl, rfl, Ex.new hp1 _ _ (x1 _ _ hp), upd_same, by rw [dps_len hv, dps_len hw]; exact hl, fun p2 hp2 => by
    have x5 := Ex.new (o := HO.lst ws) hp1
    exact k p2 (vs ++ ws) (upd H1 p1 (.lst ws)) _ (x1.trans x5) hp2 (Ex.new hp2) upd_same (dps_ex (hid_ex (Ex.new hp2)) _ _ (dps_hide (dps_app (DqAll.up hv (x1.trans x5)) (DqAll.up hw x5)) hp2))⟩⟩⟩
theorem g_par {i j : Nat} {d e : PyData} (h : EA K b t σ H [d, e]) (k : ∀ v w H', Ex H H' → Dq K b H' v d → Dq K b H' w e → ts D ((σ.set i (some v)).set j (some w)) H') : tSeq (tPar i j t) ts D σ H :=
  h H (Ex.refl H) _ fun vs H1 x hvs => by
    cases hvs with
    | @cons v _ _ _ h1 hvs =>
    cases hvs with
    | @cons w _ _ _ h2 hvs =>
    cases hvs
    exact ⟨v, w, rfl, k v w H1 x h1 h2⟩
theorem g_forN {g : TG} {tb : TS} (h : EA K b t σ H ds) (hl : ds.length ≤ sizeLine)
    (k : ∀ pT vs H'', (∀ c o, H c = some o → c ≠ pT) → Ex H H'' → H'' pT = some (.lst vs) → DqAll K b H'' vs ds → tFor (fun _ H R => R (Itl K pT) H) g tb { D with nx := ts D } σ H'') : tSeq (tFor (iList K (tLst t)) g tb) ts D σ H :=
  h H (Ex.refl H) _ fun vs H' x hvs => ⟨by rw [dps_len hvs]; exact hl, fun pT hpT => ⟨pT, rfl, ⟨vs, .inl (.inl upd_same)⟩, k pT vs _ (fun c o hc e => by rw [← e, x _ _ hc] at hpT; cases hpT) (x.trans (Ex.new hpT)) upd_same (DqAll.up hvs (Ex.new hpT))⟩⟩
theorem app_loop {a0 v1 v2 v3 : V} {F : Addr} {z5 : Option V} {us : List V} {L rs : List PyData} {part : PyData → PyData} (kn : Kn (F :: b) H) (hF : H F = some (.lst us)) (hL : DqAll K (F :: b) H us L) (hs : EA K (F :: b) t [some a0, some v1, some v2, some v3, some (.ref F), z5] H rs) (hl : rs.length ≤ 1000) (hL2 : L.length ≤ 1000)
    (he : ∀ d v H1, d ∈ rs → ExB F H H1 → Kn (F :: b) H1 → Dq K (F :: b) H1 v d → ED K (F :: b) te [some a0, some v1, some v2, some v3, some (.ref F), some v] H1 (part d))
    (k : ∀ z us' H', ExB F H H' → Kn (F :: b) H' → H' F = some (.lst us') → DqAll K (F :: b) H' us' (L ++ rs.map part) → ts D [some a0, some v1, some v2, some v3, some (.ref F), z] H') :
    tSeq (tFor (iList K (tLst t)) (gName 5) (tDrop (tBM K "list" rAppend (tVar 4) (tCons te tNil)))) ts D [some a0, some v1, some v2, some v3, some (.ref F), z5] H := by
  have hsl : sizeLine = 16777216 := sizeLine_eq
  refine g_forN hs (by omega) fun pT vs H1 nT x1 hT dT => ?_
  have hne : pT ≠ F := fun e => nT F _ hF e.symm
  have kn1 := kn.up x1
  have knB : ∀ {H'}, ExB F H1 H' → (∃ us', H' F = some (.lst us')) → Kn (F :: b) H' := fun {H'} x ⟨us', e⟩ c hc z => by
    by_cases ec : c = F
    · rw [ec, e] at z; cases z
    · cases q : H1 c with
      | none => exact kn1 c hc q
      | some o => rw [x c o ec q] at z; cases z
  refine for_it (walk_list (K := K) (xs := vs)) (fun i σ' H' => (∃ z, σ' = [some a0, some v1, some v2, some v3, some (.ref F), z]) ∧ ExB F H1 H' ∧ ∃ us', H' F = some (.lst us') ∧ DqAll K (F :: b) H' us' (L ++ (rs.take i).map part)) ⟨⟨_, rfl⟩, ExB.refl F H1, us, x1 _ _ hF, by simpa using DqAll.up hL x1⟩ (fun i σ' H' _ h => .inl (.inl (h.2.1 _ _ hne hT))) ?_ ?_
  · intro i xv σ' H5 H5' hi ⟨⟨z, eσ⟩, x5, us', e5, d5⟩ ⟨eH, hx⟩
    subst eσ eH
    obtain ⟨sd, hsd, hq⟩ := dps_at dT hx
    have hq : Dq K (F :: b) H1 xv sd := hq
    have kn5 := knB x5 ⟨_, e5⟩
    have hlen := dps_len d5
    rw [List.length_append, List.length_map, List.length_take] at hlen
    refine g_app (vs := us') (j := 4) rfl e5 (by omega) (he sd xv H5' (List.mem_of_getElem? hsd) ((exb x1).trans x5) kn5 (hq.upB List.mem_cons_self x5)) fun y H6 x6 hy => ⟨⟨_, rfl⟩, fun c o hc h => ?_, us' ++ [y], upd_same, ?_⟩
    · rw [upd_ne hc]
      exact x6 _ _ (x5 c o hc h)
    · have e : L ++ (rs.take (i + 1)).map part = (L ++ (rs.take i).map part) ++ [part sd] := by
        rw [List.take_add_one, hsd, List.map_append, ← List.append_assoc]
        rfl
      rw [e]
      exact dps_ex put_ex _ _ (dps_app (DqAll.up d5 x6) (.cons hy .nil))
  · intro σ' H5 ⟨⟨z, eσ⟩, x5, us', e5, d5⟩
    subst eσ
    have hlen := dps_len dT
    rw [hlen, List.take_of_length_le (Nat.le_refl _)] at d5
    exact k z us' H5 ((exb x1).trans x5) (knB x5 ⟨_, e5⟩) e5 d5
end
section
variable {P : Program} {w : World} {K : PySem.W.Frag} {mg : Str → Option Value} {base : Heap} {f g1 g9 : Addr} {fd gd1 gd9 : FuncData}
theorem ok_od (D : Def K mg "_law_odd" s_od ["_law_bag_here"] f fd) (D9 : Def K mg "_law_take" s_take ["_law_bag_here", "_law_many"] g9 gd9) : FnOk P w K mg base CX0 2 f fd ["_law_bag_here"] (spG K 1 (· = []) fun _ d => d ∈ oddL) := by
  refine D.F.ok sc_od (fun vs H Q E h => spG_len (fun ds e => by rw [e]; rfl) h) (fun cdv A outer s H vs Q E hr h => ?_)
  obtain ⟨b, a, k, ws, ds, rfl, hab, kn, bg, hd, rfl, q⟩ := h
  cases hd
  have r1 : Room 1 _ := hr.mono (by decide)
  have G9 := ok_take (P := P) (w := w) (base := base) D9
  refine ⟨_, pss_cons (ps_set (i := 1) sc_od.nd rfl (Or.inl rfl) (pe_lst (pa_cons pe_non (pa_cons pe_bl (pa_cons pe_int (pa_cons (pe_un un_neg pe_int) (pa_cons (pe_op op_powW pe_int pe_int) (pa_cons pe_str (pa_cons pe_str (pa_cons pe_str (pa_cons (pe_lst pa_nil) (pa_cons (pe_tupF pa_nil) (pa_cons (pe_lst (pa_cons (pe_lst (pa_cons pe_str pa_nil)) pa_nil)) (pa_cons (pe_tupF (pa_cons pe_str pa_nil)) (pa_cons pe_str pa_nil)))))))))))))))
    (pss_one (ps_ret (pe_ix ix_list (pv 1) (pe_cd D9 G9 r1 (pa_cons (pv 0) (pa_cons pe_int pa_nil))) (fun _ _ => rfl)))), ?_⟩
  have hsl : sizeLine = 16777216 := sizeLine_eq
  have pw2 : ∀ {σ'} {H'}, ED K b (tOp (rI CPowW fun i j => .int (i ^ j.toNat)) (tC (.int 10)) (tC (.int 39))) σ' H' (.int 1000000000000000000000000000000000000000) := fun {_ _} => ed_I ed_int ed_int ⟨by decide, by decide, by decide⟩ fun _ => .int _
  refine g_lst (K := K) (b := b) (ds := oddL) kn (ea_cons ed_non (ea_cons ed_bl (ea_cons ed_int (ea_cons (ed_neg ed_int) (ea_cons pw2 (ea_cons ed_str (ea_cons ed_str (ea_cons ed_str (ea_cons (ed_lst kn ea_nil (by decide)) (ea_cons (ed_tup kn ea_nil (by decide)) (ea_cons (ed_lst kn (ea_cons (ed_lst kn (ea_cons ed_str ea_nil) (by decide)) ea_nil) (by decide)) (ea_cons (ed_tup kn (ea_cons ed_str ea_nil) (by decide)) (ea_cons ed_str ea_nil))))))))))))) (by decide) fun pO vO H1 hpO x1 hO dO => ?_
  have kn1 := kn.up x1
  have b1 := bg.ex x1
  have dodd : Dq K b H1 (.ref pO) (.list oddL) := .lst (.inl (.inl (by rw [hid_ne (kn.new hpO)]; exact hO))) dO
  have eg : EG K b a (k + 1) k (tOp (rIxL K) (tVar 1) (tCall (spTake K) [] E0 (tCons (tVar 0) (tCons (tC (.int 13)) tNil)))) [some (.ref a), some (.ref pO)] H1 (· ∈ oddL) := by
    refine eg_ixL hab (eg_var (P := (· = .list oddL)) (i := 1) rfl hab dodd rfl) (eg_take (n := k) hab rfl (by decide) (by decide)) ?_
    rintro d e rfl hi'
    obtain ⟨j', z, rfl, hz, hm⟩ := intB_at (ds := oddL) hi' (by decide)
    exact ⟨_, j', z, rfl, rfl, hz, hm⟩
  exact eg H1 (ExB.refl a H1) kn1 b1 _ fun v d H2 x2 b2 hv hm => q v d H2 ((exb x1).trans x2) b2 hv hm
theorem ok_no (D : Def K mg "_law_none" s_no ["_law_bag_here"] f fd) (D9 : Def K mg "_law_take" s_take ["_law_bag_here", "_law_many"] g9 gd9) (B : Blt mg) : FnOk P w K mg base CX0 2 f fd ["_law_bag_here"] (spG K 1 (· = []) fun _ d => d ∈ noneL) := by
  refine D.F.ok sc_no (fun vs H Q E h => spG_len (fun ds e => by rw [e]; rfl) h) (fun cdv A outer s H vs Q E hr h => ?_)
  obtain ⟨b, a, k, ws, ds, rfl, hab, kn, bg, hd, rfl, q⟩ := h
  cases hd
  have r1 : Room 1 _ := hr.mono (by decide)
  have G9 := ok_take (P := P) (w := w) (base := base) D9
  refine ⟨_, pss_cons (ps_set (i := 1) sc_no.nd rfl (Or.inl rfl) (pe_tupF (pa_cons (pe_tupF (pa_cons pe_str (pa_cons (pe_tupF (pa_cons pe_str pa_nil)) (pa_cons (pe_tupF (pa_cons (pe_tupF (pa_cons pe_str (pa_cons pe_str pa_nil))) (pa_cons (pe_tupF (pa_cons pe_str pa_nil)) pa_nil))) pa_nil)))) (pa_cons (pe_tupF (pa_cons pe_str (pa_cons (pe_tupF pa_nil) (pa_cons (pe_tupF (pa_cons (pe_tupF (pa_cons pe_str (pa_cons pe_int pa_nil))) (pa_cons (pe_tupF (pa_cons pe_str pa_nil)) pa_nil))) pa_nil)))) pa_nil))))
    (pss_cons (ps_par (i := 2) (j := 3) rfl sc_no.nd rfl rfl (by decide) rfl rfl (pa_cons (pe_ix ix_tup (pv 1) pe_int (fun _ _ => rfl)) (pa_cons (pe_slice sl_tupF (pv 1) (po_some pe_int) po_none) pa_nil)) rfl)
    (pss_cons (ps_set (i := 4) sc_no.nd rfl (Or.inl rfl) (pe_lst (pa_cons (pe_tupF pa_nil) (pa_cons (pe_lst pa_nil) (pa_cons pe_non (pa_cons pe_int (pa_cons pe_bl (pa_cons pe_str (pa_cons (pe_callTy call_listF rfl B.list bt_list (pa_cons (pv 1) pa_nil)) (pa_cons (pe_op op_catF (pv 1) (pe_slice sl_tupF (pv 1) po_none (po_some pe_int))) (pa_cons (pe_tupF (pa_cons (pv 1) pa_nil)) (pa_cons (pe_op op_catF (pe_tupF (pa_cons (pe_slice sl_tupF (pv 2) po_none (po_some pe_int)) pa_nil)) (pv 3)) (pa_cons (pv 2) pa_nil)))))))))))))
    (pss_cons (ps_set (i := 4) sc_no.nd rfl (Or.inl rfl) (pe_op op_cat (pv 4) (pe_lst (pa_cons (pe_tupF (pa_cons (pe_tupF (pa_cons pe_str (pa_cons (pe_lst (pa_cons pe_str pa_nil)) (pa_cons (pe_ix ix_tup (pv 2) pe_int (fun _ _ => rfl)) pa_nil)))) pa_nil)) (pa_cons (pe_tupF (pa_cons (pe_tupF (pa_cons pe_str (pa_cons (pe_tupF (pa_cons pe_str (pa_cons pe_str pa_nil))) (pa_cons (pe_ix ix_tup (pv 2) pe_int (fun _ _ => rfl)) pa_nil)))) pa_nil)) (pa_cons (pe_op op_catF (pe_tupF (pa_cons (pe_tupF (pa_cons pe_str (pa_cons (pe_tupF pa_nil) (pa_cons (pe_ix ix_tup (pv 2) pe_int (fun _ _ => rfl)) pa_nil)))) pa_nil)) (pv 3)) pa_nil))))))
    (pss_cons (ps_for PassesOwn.never rfl (pi_list (pe_lst (pa_cons (pe_tupF pa_nil) (pa_cons (pe_tupF (pa_cons (pe_tupF (pa_cons pe_str (pa_cons pe_int pa_nil))) pa_nil)) (pa_cons (pe_tupF (pa_cons (pe_tupF (pa_cons pe_str (pa_cons pe_int pa_nil))) (pa_cons (pe_tupF (pa_cons pe_str pa_nil)) pa_nil))) (pa_cons (pe_tupF (pa_cons (pe_tupF (pa_cons pe_str (pa_cons pe_str pa_nil))) pa_nil)) (pa_cons (pe_tupF (pa_cons (pe_tupF (pa_cons pe_str (pa_cons pe_bl pa_nil))) pa_nil)) (pa_cons (pe_tupF (pa_cons (pe_lst (pa_cons pe_str pa_nil)) pa_nil)) pa_nil)))))))) (pg_name (i := 5) sc_no.nd rfl (Or.inl rfl)) (pss_one (ps_expr (pe_bm PySem.F.plainAttrs_list PySem.F.slot_list_append PySem.F.type_list_append mt_append (pv 4) (pa_cons (pe_op op_catF (pe_tupF (pa_cons (pe_tupF (pa_cons pe_str (pa_cons (pe_tupF pa_nil) (pa_cons (pv 5) pa_nil)))) pa_nil)) (pv 3)) pa_nil)))))
    (pss_cons (ps_for PassesOwn.never rfl (pi_list (pe_lst (pa_cons (pe_tupF (pa_cons (pe_tupF (pa_cons pe_str (pa_cons (pe_op op_add (pe_op op_powW pe_int pe_int) pe_int) pa_nil))) pa_nil)) (pa_cons (pe_tupF (pa_cons (pe_tupF (pa_cons pe_str (pa_cons pe_int pa_nil))) pa_nil)) (pa_cons (pe_tupF (pa_cons pe_str pa_nil)) (pa_cons (pe_tupF (pa_cons (pe_tupF (pa_cons pe_str pa_nil)) pa_nil)) (pa_cons (pe_tupF (pa_cons (pe_tupF (pa_cons pe_str (pa_cons pe_str pa_nil))) pa_nil)) (pa_cons (pe_tupF (pa_cons (pe_tupF (pa_cons pe_str (pa_cons (pe_un un_neg pe_int) pa_nil))) pa_nil)) pa_nil)))))))) (pg_name (i := 5) sc_no.nd rfl (Or.inl rfl)) (pss_one (ps_expr (pe_bm PySem.F.plainAttrs_list PySem.F.slot_list_append PySem.F.type_list_append mt_append (pv 4) (pa_cons (pe_tupF (pa_cons (pe_tupF (pa_cons pe_str (pa_cons (pe_tupF pa_nil) (pa_cons (pv 5) pa_nil)))) pa_nil)) pa_nil)))))
    (pss_one (ps_ret (pe_ix ix_list (pv 4) (pe_cd D9 G9 r1 (pa_cons (pv 0) (pa_cons pe_int pa_nil))) (fun _ _ => rfl))))))))), ?_⟩
  have hsl : sizeLine = 16777216 := sizeLine_eq
  have s1 : ∀ {x : PyData}, [x].length ≤ sizeLine := fun {x} => by show 1 ≤ sizeLine; omega
  have s2 : ∀ {x y : PyData}, [x, y].length ≤ sizeLine := fun {x y} => by show 2 ≤ sizeLine; omega
  have s3 : ∀ {x y z : PyData}, [x, y, z].length ≤ sizeLine := fun {x y z} => by show 3 ≤ sizeLine; omega
  have t0 : ∀ {b' σ' H'}, Kn b' H' → ED K b' (tTupF tNil) σ' H' (.tuple []) := fun {b' σ' H'} k' => ed_tup k' ea_nil (by decide)
  have w1 : ∀ {b' σ' H'} {x : Str}, Kn b' H' → ED K b' (tTupF (tCons (tC (.str x)) tNil)) σ' H' (.tuple [.str x]) := fun {b' σ' H' x} k' => ed_tup k' (ea_cons ed_str ea_nil) s1
  have w2 : ∀ {b' σ' H'} {x y : Str}, Kn b' H' → ED K b' (tTupF (tCons (tC (.str x)) (tCons (tC (.str y)) tNil))) σ' H' (.tuple [.str x, .str y]) := fun {b' σ' H' x y} k' => ed_tup k' (ea_cons ed_str (ea_cons ed_str ea_nil)) s2
  have wi : ∀ {b' σ' H'} {x : Str} {i : Int}, Kn b' H' → ED K b' (tTupF (tCons (tC (.str x)) (tCons (tC (.int i)) tNil))) σ' H' (.tuple [.str x, .int i]) := fun {b' σ' H' x i} k' => ed_tup k' (ea_cons ed_str (ea_cons ed_int ea_nil)) s2
  refine g_set (K := K) (b := b) (d := .tuple goodL) (ed_tup kn (ea_cons (ed_tup kn (ea_cons ed_str (ea_cons (w1 kn) (ea_cons (ed_tup kn (ea_cons (w2 kn) (ea_cons (w1 kn) ea_nil)) s2) ea_nil))) s3) (ea_cons (ed_tup kn (ea_cons ed_str (ea_cons (t0 kn) (ea_cons (ed_tup kn (ea_cons (wi kn) (ea_cons (w1 kn) ea_nil)) s2) ea_nil))) s3) ea_nil)) s2) fun v1 H1 x1 h1 => ?_
  have kn1 := kn.up x1
  show tSeq _ _ _ [some (.ref a), some v1, none, none, none, none] H1
  have sl1 : ∀ {σ' H'}, σ'[1]? = some (some v1) → Ex H1 H' → ED K b (tSl (rSlF K) (tVar 1) (tPart (tC (.int 1))) tNoPart) σ' H' (.tuple [gd2]) := fun {σ' H'} e x => (ed_slT (kn1.up x) (ed_var (i := 1) e (Dq.up h1 x)) (eo_some (K := K) (b := b) (ed_int (i := 1))) eo_none).to (congrArg PyData.tuple (show cutD goodL (some 1) none = [gd2] from rfl))
  refine g_par (K := K) (b := b) (d := gd1) (e := .tuple [gd2]) (ea_cons (ed_ixT (ed_var (σ := [some (.ref a), some v1, none, none, none, none]) (i := 1) rfl h1) (ed_int (i := 0)) (atI_nat (j := 0) rfl)) (ea_cons (sl1 rfl (Ex.refl H1)) ea_nil)) fun v2 v3 H2 x2 h2 h3 => ?_
  show tSeq _ _ _ [some (.ref a), some v1, some v2, some v3, none, none] H2
  have kn2 := kn1.up x2
  have h12 := Dq.up h1 x2
  have sg : ∀ {σ'}, σ'[1]? = some (some v1) → ED K b (tSl (rSlF K) (tVar 1) tNoPart (tPart (tC (.int 1)))) σ' H2 (.tuple [gd1]) := fun {σ'} e => (ed_slT kn2 (ed_var (i := 1) e h12) eo_none (eo_some (K := K) (b := b) (ed_int (i := 1)))).to (congrArg PyData.tuple (show cutD goodL none (some 1) = [gd1] from rfl))
  have sh : ∀ {σ'}, σ'[2]? = some (some v2) → ED K b (tSl (rSlF K) (tVar 2) tNoPart (tPart (tC (.int 2)))) σ' H2 (.tuple [.str "main", .tuple [.str "a"]]) := fun {σ'} e => (ed_slT kn2 (ed_var (i := 2) e h2) eo_none (eo_some (K := K) (b := b) (ed_int (i := 2)))).to (congrArg PyData.tuple (show cutD [.str "main", .tuple [.str "a"], rs1] none (some 2) = [.str "main", .tuple [.str "a"]] from rfl))
  refine g_lst (K := K) (b := b) (ds := some1) kn2 (ea_cons (t0 kn2) (ea_cons (ed_lst kn2 ea_nil (by decide)) (ea_cons ed_non (ea_cons ed_int (ea_cons ed_bl (ea_cons ed_str (ea_cons (ed_listOf kn2 (ed_var (i := 1) rfl h12)) (ea_cons (ed_catT kn2 (ed_var (i := 1) rfl h12) (sg rfl) (by show 2 + 1 ≤ sizeLine; omega)) (ea_cons (ed_tup kn2 (ea_cons (ed_var (i := 1) rfl h12) ea_nil) s1) (ea_cons (ed_catT kn2 (ed_tup kn2 (ea_cons (sh rfl) ea_nil) s1) (ed_var (i := 3) rfl h3) (by show 1 + 1 ≤ sizeLine; omega)) (ea_cons (ed_var (i := 2) rfl h2) ea_nil))))))))))) (by show 11 ≤ sizeLine; omega) fun p1 vs1 H3 hp1 x3 e1 d1 => ?_
  show tSeq _ _ _ [some (.ref a), some v1, some v2, some v3, some (.ref p1), none] H3
  have kn3 := kn2.up x3
  have h23 := Dq.up h2 x3
  have h33 := Dq.up h3 x3
  have hr1 : ∀ {σ'}, σ'[2]? = some (some v2) → ED K b (tOp (rIxT K) (tVar 2) (tC (.int 2))) σ' H3 rs1 := fun {σ'} e => ed_ixT (ed_var (i := 2) e h23) (ed_int (i := 2)) (atI_nat (j := 2) rfl)
  refine g_catH (K := K) (b := b) (i := 4) (ds := some1) (es := some2) rfl e1 d1 (ea_cons (ed_tup kn3 (ea_cons (ed_tup kn3 (ea_cons ed_str (ea_cons (ed_lst kn3 (ea_cons ed_str ea_nil) s1) (ea_cons (hr1 rfl) ea_nil))) s3) ea_nil) s1) (ea_cons (ed_tup kn3 (ea_cons (ed_tup kn3 (ea_cons ed_str (ea_cons (w2 kn3) (ea_cons (hr1 rfl) ea_nil))) s3) ea_nil) s1) (ea_cons (ed_catT kn3 (ed_tup kn3 (ea_cons (ed_tup kn3 (ea_cons ed_str (ea_cons (t0 kn3) (ea_cons (hr1 rfl) ea_nil))) s3) ea_nil) s1) (ed_var (i := 3) rfl h33) (by show 1 + 1 ≤ sizeLine; omega)) ea_nil))) (by show 11 + 3 ≤ sizeLine; omega) fun F us H5 H6 x35 hF x56 eF dF => ?_
  show tSeq _ _ _ [some (.ref a), some v1, some v2, some v3, some (.ref F), none] H6
  have x36 := x35.trans x56
  have kn6 : Kn (F :: b) H6 := fun c hc z => by
    rcases List.mem_cons.mp hc with rfl | hc
    · rw [eF] at z; cases z
    · exact kn3.up x36 c hc z
  have h36 : Dq K (F :: b) H6 v3 (.tuple [gd2]) := dp_ex (hid_ex x56) _ _ (Dq.hide (Dq.up h33 x35) hF)
  refine app_loop (K := K) (b := b) (part := part3) (rs := rows3) kn6 eF dF (ea_cons (t0 kn6) (ea_cons (ed_tup kn6 (ea_cons (wi kn6) ea_nil) s1) (ea_cons (ed_tup kn6 (ea_cons (wi kn6) (ea_cons (w1 kn6) ea_nil)) s2) (ea_cons (ed_tup kn6 (ea_cons (w2 kn6) ea_nil) s1) (ea_cons (ed_tup kn6 (ea_cons (ed_tup kn6 (ea_cons ed_str (ea_cons ed_bl ea_nil)) s2) ea_nil) s1) (ea_cons (ed_tup kn6 (ea_cons (ed_lst kn6 (ea_cons ed_str ea_nil) s1) ea_nil) s1) ea_nil)))))) (by decide) (by decide) (fun d v H7 hm x7 kn7 hv => ?_) fun z us7 H7 x7 kn7 e7 d7 => ?_
  · exact ed_catT kn7 (ed_tup kn7 (ea_cons (ed_tup kn7 (ea_cons ed_str (ea_cons (t0 kn7) (ea_cons (ed_var (i := 5) rfl hv) ea_nil))) s3) ea_nil) s1) (ed_var (i := 3) rfl (h36.upB List.mem_cons_self x7)) (by show 1 + 1 ≤ sizeLine; omega)
  have pw : ∀ {σ'} {H'}, ED K (F :: b) (tOp (rI CPowW fun i j => .int (i ^ j.toNat)) (tC (.int 10)) (tC (.int 12))) σ' H' (.int 1000000000000) := fun {_ _} => ed_I ed_int ed_int ⟨by decide, by decide, by decide⟩ fun _ => .int _
  refine app_loop (K := K) (b := b) (part := part4) (rs := rows4) kn7 e7 d7 (ea_cons (ed_tup kn7 (ea_cons (ed_tup kn7 (ea_cons ed_str (ea_cons (ed_add pw (ed_int (i := 1))) ea_nil)) s2) ea_nil) s1) (ea_cons (ed_tup kn7 (ea_cons (wi kn7) ea_nil) s1) (ea_cons (w1 kn7) (ea_cons (ed_tup kn7 (ea_cons (w1 kn7) ea_nil) s1) (ea_cons (ed_tup kn7 (ea_cons (w2 kn7) ea_nil) s1) (ea_cons (ed_tup kn7 (ea_cons (ed_tup kn7 (ea_cons ed_str (ea_cons (ed_neg (ed_int (i := 1))) ea_nil)) s2) ea_nil) s1) ea_nil)))))) (by decide) (by decide) (fun d v H8 hm x8 kn8 hv => ?_) fun z us8 H8 x8 kn8 e8 d8 => ?_
  · exact ed_tup kn8 (ea_cons (ed_tup kn8 (ea_cons ed_str (ea_cons (t0 kn8) (ea_cons (ed_var (i := 5) rfl hv) ea_nil))) s3) ea_nil) s1
  have x68 : ExB F H6 H8 := x7.trans x8
  have x16 : Ex H H6 := (x1.trans (x2.trans x3)).trans x36
  have hFn : H F = none := by
    cases z : H F with
    | none => rfl
    | some o =>
      rw [((x1.trans (x2.trans x3)).trans x35) _ _ z] at hF
      cases hF
  have x08 : Ex H H8 := fun c o h => x68 c o (fun e => by rw [e, hFn] at h; cases h) (x16 c o h)
  have knb : Kn b H8 := kn.up x08
  have bg8 := bg.ex x08
  have dsome : Dq K b H8 (.ref F) (.list noneL) := .lst (.inl (.inl (by rw [hid_ne fun hm => kn F hm hFn]; exact e8))) (dps_ex show_ex _ _ d8)
  have eg : EG K b a (k + 1) k (tOp (rIxL K) (tVar 4) (tCall (spTake K) [] E0 (tCons (tVar 0) (tCons (tC (.int 26)) tNil)))) [some (.ref a), some v1, some v2, some v3, some (.ref F), z] H8 (· ∈ noneL) := by
    refine eg_ixL hab (eg_var (P := (· = .list noneL)) (i := 4) rfl hab dsome rfl) (eg_take (n := k) hab rfl (by decide) (by decide)) ?_
    rintro d e rfl hi'
    obtain ⟨j', z, rfl, hz, hm⟩ := intB_at (ds := noneL) hi' (by decide)
    exact ⟨_, j', z, rfl, rfl, hz, hm⟩
  exact eg H8 (ExB.refl a H8) knb bg8 _ fun v d H9 x9 b9 hv hm => q v d H9 ((exb x08).trans x9) b9 hv hm
end
end Wr

set_option Elab.async false
set_option linter.all false
set_option maxRecDepth 100000
set_option maxHeartbeats 4000000
namespace Wr
open PySem PySem.Spec PyProof.Rows L2 Evl L2H
/-! ### asked -/
abbrev NAs : List Str := ["_law_bag_here", "_law_thing", "_law_deed", "_law_one", "_law_other", "_law_more", "_law_e"]
abbrev PAs : List Str := ["_law_bag_here", "_law_thing", "_law_deed"]
theorem sc_as : FnScope NAs PAs (defScope s_as) := ⟨rfl, rfl, rfl, by decide +kernel, rfl, by decide +kernel, by decide +kernel⟩
def tRefs : List Addr → TA
  | [] => tNil
  | f :: r => tCons (tC (.ref f)) (tRefs r)
theorem refs_ev : ∀ (fs : List Addr) {σ : L2.St} {H : Hp} {Q : List V → Hp → Prop}, Q (fs.map V.ref) H → tRefs fs σ H Q
  | [], _, _, _, q => q
  | f :: r, _, _, _, q => refs_ev r q
theorem pick {K : PySem.W.Frag} {fs : List Addr} {ti : TE} {i : Int} {σ : L2.St} {H : Hp} {Q : VK} (hti : ∀ H1 (Q : VK), (∀ H2, Ex H1 H2 → Q (.int i) H2) → ti σ H1 Q) (h0 : 0 ≤ i) (hl : i < (fs.length : Nat)) (h1 : fs.length ≤ 100) (q : ∀ f, f ∈ fs → ∀ H', Ex H H' → Q (.ref f) H') : tOp (rIxL K) (tLst (tRefs fs)) ti σ H Q := by
  refine refs_ev fs ⟨by rw [List.length_map, sizeLine_eq]; omega, fun p hp => hti _ _ fun H2 x2 => ?_⟩
  obtain ⟨j, rfl⟩ : ∃ j : Nat, i = (j : Nat) := ⟨i.toNat, (Int.toNat_of_nonneg h0).symm⟩
  have hj : j < fs.length := by omega
  refine ⟨p, fs.map V.ref, (j : Nat), .ref fs[j], rfl, rfl, .inl (.inl (x2 _ _ upd_same)), atI_nat (by rw [List.getElem?_map, List.getElem?_eq_getElem hj]; rfl), q _ (List.getElem_mem hj) H2 ((Ex.new hp).trans x2)⟩
theorem g_ifD {tt : TT} {c : Bool} {t1 t2 : TS} {D : Ends} {σ : L2.St} {H : Hp} (hc : EvT tt σ H c) (h1 : c = true → ∀ H1, Ex H H1 → t1 D σ H1) (h2 : c = false → ∀ H1, Ex H H1 → t2 D σ H1) : tIfS tt t1 t2 D σ H := by
  refine hc H (Ex.refl H) _ fun H1 x1 => ?_
  cases c with
  | true =>
    rw [if_pos rfl]
    exact h1 rfl H1 x1
  | false =>
    rw [if_neg Bool.false_ne_true]
    exact h2 rfl H1 x1
theorem g_par3 {K : PySem.W.Frag} {b : List Addr} {a : Addr} {n m i j l : Nat} {t : TA} {σ : L2.St} {H : Hp} {R : List PyData → Prop} {ts : TS} {D : Ends} (h : EGA K b a n m t σ H R) (hR : ∀ ds, R ds → ds.length = 3) (kn : Kn b H) (bg : Bag a n H) (k : ∀ u v w H', ExB a H H' → Bag a m H' → ts D (((σ.set i (some u)).set j (some v)).set l (some w)) H') : tSeq (tPar3 i j l t) ts D σ H :=
  h H (ExB.refl a H) kn bg _ fun vs ds H1 x1 b1 hvs hP => by
    have e := dps_len hvs
    rw [hR ds hP] at e
    match vs, e with
    | [u, v, w], _ => exact ⟨u, v, w, rfl, k u v w H1 x1 b1⟩
def spAs (K : PySem.W.Frag) : Sp := fun vs H Q _ => ∃ (b : List Addr) (a : Addr) (k : Nat) (v : V) (d : PyData) (deed : Nat), vs = [.ref a, v, .int (deed : Nat)] ∧ a ∈ b ∧ Kn b H ∧ Bag a (k + 1 + 1 + 1) H ∧ Dq K b H v d ∧ okD 30 d = true ∧ progD d = false ∧ deed < 16 ∧ ∀ H', ExB a H H' → Bag a k H' → Q (.str "NoProgram") H'
/-- the defs asked -/
structure AskC (P : Program) (w : World) (K : PySem.W.Frag) (mg : Str → Option Value) (base : Heap) (C : Addr) (fs : List Addr) : Prop where
  m0 : mg "part_number" = some (.ref (fs.getD 0 0))
  m1 : mg "names_in" = some (.ref (fs.getD 1 0))
  m2 : mg "standings" = some (.ref (fs.getD 2 0))
  m3 : mg "part_paper" = some (.ref (fs.getD 3 0))
  m4 : mg "callers" = some (.ref (fs.getD 4 0))
  m5 : mg "is_sound" = some (.ref (fs.getD 5 0))
  m6 : mg "show_program" = some (.ref (fs.getD 6 0))
  m7 : mg "row_at" = some (.ref (fs.getD 7 0))
  m8 : mg "walked" = some (.ref (fs.getD 8 0))
  m9 : mg "agree" = some (.ref (fs.getD 9 0))
  m10 : mg "rows_paper" = some (.ref (fs.getD 10 0))
  m11 : mg "is_hook" = some (.ref (fs.getD 11 0))
  m12 : mg "holds" = some (.ref (fs.getD 12 0))
  h0 : ∀ f ∈ [fs.getD 0 0, fs.getD 1 0, fs.getD 2 0, fs.getD 3 0], HeldNo P w K mg base C f 1
  h4 : ∀ f ∈ [fs.getD 4 0, fs.getD 5 0, fs.getD 6 0], HeldNo P w K mg base C f 0
  h7 : ∀ f ∈ [fs.getD 7 0, fs.getD 8 0], HeldNo P w K mg base C f 2
  h9 : ∀ f ∈ [fs.getD 9 0, fs.getD 10 0], HeldNo P w K mg base C f 3
  h11 : ∀ f ∈ [fs.getD 11 0, fs.getD 12 0], HeldNo P w K mg base C f 1
section
variable {P : Program} {w : World} {K : PySem.W.Frag} {mg : Str → Option Value} {base : Heap} {C f g1 g2 g3 g9 fB fR fW CW : Addr} {cs fs : List Addr} {bs : List Bool} {fd gd1 gd2 gd3 gd9 fdB fdR fdW : FuncData}
theorem ok_as (D : Def K mg "_law_asked" s_as PAs f fd) (Do : Def K mg "_law_odd" s_od ["_law_bag_here"] g1 gd1) (Go : FnOk P w K mg base CX0 2 g1 gd1 ["_law_bag_here"] (spG K 1 (· = []) fun _ d => d ∈ oddL))
    (Dk : Def K mg "_law_kind" s_ki ["_law_e"] g3 gd3) (Gk : FnE P w K mg base 1 g3 gd3 ["_law_e"] (spKi K cs)) (M : KiM mg cs) (KC : KiC K C cs 0 bs) (IT : IsxC K C) (hdc : PySem.W.hasDictIn K C = true)
    (te : PySem.W.exmAny K (.ref C) [.ref (cs.getD 0 0), .ref (cs.getD 1 0), .ref (cs.getD 2 0), .ref (cs.getD 4 0), .ref (cs.getD 5 0), .ref (cs.getD 6 0), .ref (cs.getD 3 0), .ref (cs.getD 7 0), .ref (cs.getD 9 0), .ref (cs.getD 10 0), .ref (cs.getD 11 0), .ref (cs.getD 8 0)] = some true)
    (A : AskC P w K mg base C fs) (mB : mg "begun" = some (.ref fB)) (kB : PySem.W.keepIn K (.ref fB) = true) (bB : Binds K fdB P_begun []) (GB : FnOk P w K mg base (L2N.CX P w) 7 fB fdB P_begun (spNo K C 2))
    (mR : mg "run_paper" = some (.ref fR)) (kR : PySem.W.keepIn K (.ref fR) = true) {g : List Value → List Value → List Value} {gV : List V → List V → List V} (bR : KBn K fdR P_run_paper 3 ["hooks"] g gV) (hgV : ∀ u1 u2 u3 z, ∃ r, gV [u1, u2, u3] [z] = u1 :: r ∧ r.length = 4) (GR : FnOk P w K mg base (L2N.CX P w) 7 fR fdR P_run_paper (spNo K C 4))
    (mW : mg "Watch" = some (.ref CW)) (MW : Mk K CW fW) {g' : List Value → List Value → List Value} {gV' : List V → List V → List V} (bW : KBn K fdW P_wi 2 ["hooks"] g' gV') (hgW : ∀ u1 u2 z, gV' [u1, u2] [z] = [u1, u2, z]) (GW : FnOk P w K mg base (L2N.CX P w) 7 fW fdW P_wi (spNoM K C)) : FnOk P w K mg base CX0 10 f fd PAs (spAs K) := by
  refine D.F.ok sc_as (fun vs H Q E ⟨_, _, _, _, _, _, e, _⟩ => by rw [e]; rfl) (fun cdv A' outer s H vs Q E hr h => ?_)
  obtain ⟨b, a, k, v, d, deed, rfl, hab, kn, bg, hv, ho, hp, hd16, q⟩ := h
  have r2 : Room 2 _ := hr.mono (by decide)
  have r8 : Room 8 _ := hr.mono (by decide)
  have r7 : Room 7 _ := hr.mono (by decide)
  have rh : ∀ hd : Option Value, RoomH 1 ((A'.deeper (envOfC "_law_asked" (defScope s_as) s.heap.objs.size f cdv)).mark hd) := fun hd => ⟨(hr.mono (by decide : 1 ≤ 9)).dp, (hr.mono (by decide : 1 ≤ 9)).un⟩
  refine ⟨_, pss_cons (ps_par3 (i := 3) (j := 4) (l := 5) rfl sc_as.nd rfl rfl rfl (by decide) (by decide) (by decide) rfl rfl rfl (pa_cons (pe_cd Do Go r2 (pa_cons (pv 0) pa_nil)) (pa_cons (pe_cd Do Go r2 (pa_cons (pv 0) pa_nil)) (pa_cons (pe_cd Do Go r2 (pa_cons (pv 0) pa_nil)) pa_nil))) rfl)
    (pss_cons (ps_try_tup (i := 6) (cs := [.ref (cs.getD 0 0), .ref (cs.getD 1 0), .ref (cs.getD 2 0), .ref (cs.getD 4 0), .ref (cs.getD 5 0), .ref (cs.getD 6 0), .ref (cs.getD 3 0), .ref (cs.getD 7 0), .ref (cs.getD 9 0), .ref (cs.getD 10 0), .ref (cs.getD 11 0), .ref (cs.getD 8 0)]) rfl rfl sc_as.nd rfl rfl
        (.cons ⟨rfl, by decide, .inl M.m0⟩ rfl (.cons ⟨rfl, by decide, .inl M.m1⟩ rfl (.cons ⟨rfl, by decide, .inl M.m2⟩ rfl (.cons ⟨rfl, by decide, .inl M.m4⟩ rfl (.cons ⟨rfl, by decide, .inl M.m5⟩ rfl (.cons ⟨rfl, by decide, .inl M.m6⟩ rfl (.cons ⟨rfl, by decide, .inl M.m3⟩ rfl (.cons ⟨rfl, by decide, .inl M.m7⟩ rfl (.cons ⟨rfl, by decide, .inl M.m9⟩ rfl (.cons ⟨rfl, by decide, .inl M.m10⟩ rfl (.cons ⟨rfl, by decide, .inl M.m11⟩ rfl (.cons ⟨rfl, by decide, .inl M.m8⟩ rfl .nil)))))))))))) (by decide)
        (fun W pn xe tkk _ => pss_one (ps_if (pt_cmpR op_lt (pv 2) pe_int (nomark _))
          (pss_one (ps_expr (show PE _ _ (tCallV P w K mg base C 1 (WE W) _ _) from pe_callV (pe_ix (r := rIxL K) ix_list (pe_lst (pa_cons (pe_gR A.m0) (pa_cons (pe_gR A.m1) (pa_cons (pe_gR A.m2) (pa_cons (pe_gR A.m3) pa_nil))))) (pv 2) (fun _ _ => rfl)) r8 (fun σ => L2N.passAt tkk σ) (pa_cons (pv 1) (pa_cons (pv 3) pa_nil)))))
          (pss_one (ps_if (pt_cmpR op_lt (pv 2) pe_int (nomark _))
          (pss_one (ps_expr (show PE _ _ (tCallV P w K mg base C 0 (WE W) _ _) from pe_callV (pe_ix (r := rIxL K) ix_list (pe_lst (pa_cons (pe_gR A.m4) (pa_cons (pe_gR A.m5) (pa_cons (pe_gR A.m6) pa_nil)))) (pe_op op_sub (pv 2) pe_int) (fun _ _ => rfl)) r8 (fun σ => L2N.passAt tkk σ) (pa_cons (pv 1) pa_nil))))
          (pss_one (ps_if (pt_cmpR op_lt (pv 2) pe_int (nomark _))
          (pss_one (ps_expr (show PE _ _ (tCallV P w K mg base C 2 (WE W) _ _) from pe_callV (pe_ix (r := rIxL K) ix_list (pe_lst (pa_cons (pe_gR A.m7) (pa_cons (pe_gR A.m8) pa_nil))) (pe_op op_sub (pv 2) pe_int) (fun _ _ => rfl)) r8 (fun σ => L2N.passAt tkk σ) (pa_cons (pv 1) (pa_cons (pv 3) (pa_cons (pv 4) pa_nil))))))
          (pss_one (ps_if (pt_cmpR op_lt (pv 2) pe_int (nomark _))
          (pss_one (ps_expr (show PE _ _ (tCallV P w K mg base C 3 (WE W) _ _) from pe_callV (pe_ix (r := rIxL K) ix_list (pe_lst (pa_cons (pe_gR A.m9) (pa_cons (pe_gR A.m10) pa_nil))) (pe_op op_sub (pv 2) pe_int) (fun _ _ => rfl)) r8 (fun σ => L2N.passAt tkk σ) (pa_cons (pv 1) (pa_cons (pv 3) (pa_cons (pv 4) (pa_cons (pv 5) pa_nil)))))))
          (pss_one (ps_if (pt_cmpR op_lt (pv 2) pe_int (nomark _))
          (pss_one (ps_expr (show PE _ _ (tCallV P w K mg base C 1 (WE W) _ _) from pe_callV (pe_ix (r := rIxL K) ix_list (pe_lst (pa_cons (pe_gR A.m11) (pa_cons (pe_gR A.m12) pa_nil))) (pe_op op_sub (pv 2) pe_int) (fun _ _ => rfl)) r8 (fun σ => L2N.passAt tkk σ) (pa_cons (pv 1) (pa_cons (pv 3) pa_nil)))))
          (pss_one (ps_if (pt_cmpR op_eq (pv 2) pe_int (nomark _))
          (pss_one (ps_expr (pe_callS (E := WE W) GB r7 rfl mB kB bB (fun σ => L2N.passAt tkk σ) (pa_cons (pv 1) (pa_cons (pv 3) (pa_cons (pv 4) pa_nil))))))
          (pss_one (ps_if (pt_cmpR op_eq (pv 2) pe_int (nomark _))
          (pss_one (ps_expr (pe_callNS (E := WE W) GR r7 rfl mR kR bR (fun σ => L2N.passAt tkk σ) (pa_cons (pv 1) (pa_cons (pv 3) (pa_cons (pv 4) pa_nil))) (pk_cons (pv 5) pk_nil))))
          (pss_one (ps_expr (pe_makeKS (n := 1) (E := WE W) MW GW r8 rfl mW bW (fun σ => L2N.passAt tkk σ) (pa_cons (pv 1) pa_nil) (pk_cons (pv 3) pk_nil))))))))))))))))))
        (fun a oe cls d pn hz hf => pss_one (ps_ret (pe_callA hz hf Gk (rh _) rfl Dk.m Dk.F.kp Dk.b (pa_cons (pv 6) pa_nil)))))
    (pss_one (ps_ret pe_str))), ?_⟩
  have dr : ∀ {n : Nat} {H' : Hp} {σ : L2.St}, σ[0]? = some (some (V.ref a)) → EG K b a (n + 1) n (tCall (spG K 1 (· = []) fun _ d => d ∈ oddL) [] E0 (tCons (tVar 0) tNil)) σ H' (fun _ => True) := fun {n H' σ} e => eg_call (c := 1) (S := (· = [])) hab e ega_nil (fun _ e => e) fun _ _ _ _ => trivial
  have dr3 : EGA K b a (k + 1 + 1 + 1) k (tCons (tCall (spG K 1 (· = []) fun _ d => d ∈ oddL) [] E0 (tCons (tVar 0) tNil)) (tCons (tCall (spG K 1 (· = []) fun _ d => d ∈ oddL) [] E0 (tCons (tVar 0) tNil)) (tCons (tCall (spG K 1 (· = []) fun _ d => d ∈ oddL) [] E0 (tCons (tVar 0) tNil)) tNil))) [some (V.ref a), some v, some (.int (deed : Nat)), none, none, none, none] H _ := ega_cons hab (dr rfl) (ega_cons hab (dr rfl) (ega_cons hab (dr rfl) ega_nil))
  refine g_par3 dr3 (fun ds ⟨d1, r1, e, _, d2, r2', e2, _, d3, r3, e3, _, e4⟩ => by rw [e, e2, e3, e4]; rfl) kn bg fun y1 y2 y3 H1 x1 b1 => ?_
  have kn1 : Kn b H1 := x1.kn kn b1
  have hv1 : Dq K b H1 v d := hv.upB hab x1
  have hv1p : ∀ {H'}, Ex H1 H' → Kn b H' ∧ Dq K b H' v d := fun x => ⟨kn1.up x, Dq.up hv1 x⟩
  obtain ⟨σ0, eσ⟩ : ∃ σ0 : L2.St, σ0 = [some (V.ref a), some v, some (.int (deed : Nat)), some y1, some y2, some y3, none] := ⟨_, rfl⟩
  have fin : ∀ H0, Ex H1 H0 → ∀ D' : Ends, D'.rt = Q → wTup K [.ref (cs.getD 0 0), .ref (cs.getD 1 0), .ref (cs.getD 2 0), .ref (cs.getD 4 0), .ref (cs.getD 5 0), .ref (cs.getD 6 0), .ref (cs.getD 3 0), .ref (cs.getD 7 0), .ref (cs.getD 9 0), .ref (cs.getD 10 0), .ref (cs.getD 11 0), .ref (cs.getD 8 0)] 6 (fun a cls d => tRet (tCallA (spKi K cs) a cls d (tCons (tVar 6) tNil))) D' (.ref C) none [some (V.ref a), some v, some (.int (deed : Nat)), some y1, some y2, some y3, none] H0 := by
    intro H0 x0 D' hD
    refine ⟨te, fun e he => ⟨.ref e, rfl, fun oe hz hf => ⟨C, 0, bs, rfl, ⟨hz.1, hf, .inr hz.2.1⟩, KC, IT, hdc, fun H2 x2 => ?_⟩⟩⟩
    show D'.rt _ H2
    rw [hD]
    exact q H2 (x1.trans (exb (x0.trans x2))) (b1.ex (x0.trans x2))
  have var2 : ∀ H1' (Q' : VK), (∀ H2, Ex H1' H2 → Q' (.int (deed : Nat)) H2) → tVar 2 [some (V.ref a), some v, some (.int (deed : Nat)), some y1, some y2, some y3, none] H1' Q' := fun H1' Q' h => ⟨_, rfl, h H1' (Ex.refl _)⟩
  have sub2 : ∀ (c : Int) H1' (Q' : VK), (∀ H2, Ex H1' H2 → Q' (.int ((deed : Nat) - c)) H2) → tOp (rI0 fun i j => .int (i - j)) (tVar 2) (tC (.int c)) [some (V.ref a), some v, some (.int (deed : Nat)), some y1, some y2, some y3, none] H1' Q' := fun c H1' Q' h => ⟨_, rfl, _, _, rfl, rfl, h H1' (Ex.refl _)⟩
  have lt : ∀ {c : Int} {H'}, EvT (tTest (tOp (rI0 fun i j => .bl (decide (i < j))) (tVar 2) (tC (.int c)))) [some (V.ref a), some v, some (.int (deed : Nat)), some y1, some y2, some y3, none] H' (decide (((deed : Nat) : Int) < c)) := fun {c H'} => et_t (ed_lt (K := K) (b := b) (ed_var (i := 2) (d := .int (deed : Nat)) rfl (.int _)) ed_int)
  have eq : ∀ {c : Int} {H'}, EvT (tTest (tOp rEq (tVar 2) (tC (.int c)))) [some (V.ref a), some v, some (.int (deed : Nat)), some y1, some y2, some y3, none] H' (decide (((deed : Nat) : Int) = c)) := fun {c H'} H2 x2 Q' q' => ⟨_, rfl, rfl, _, rfl, by
    have e : decide (V.int (deed : Nat) = V.int c) = decide (((deed : Nat) : Int) = c) := by
      by_cases h : ((deed : Nat) : Int) = c
      · rw [decide_eq_true h, h, decide_eq_true rfl]
      · rw [decide_eq_false h, decide_eq_false fun z => h (by injection z)]
    rw [e]
    exact q' H2 (Ex.refl _)⟩
  refine g_ifD lt (fun c1 H2 x2 => ?_) fun c1 H2 x2 => ?_
  · have c1 := of_decide_eq_true c1
    refine pick (fs := [fs.getD 0 0, fs.getD 1 0, fs.getD 2 0, fs.getD 3 0]) var2 (by omega) (by show _ < ((4 : Nat) : Int); omega) (by simp) fun f' hf' H3 x3 => ⟨f', rfl, A.h0 f' hf', v, rfl, y1, rfl, b, v, [y1], d, rfl, rfl, (hv1p (x2.trans x3)).1, (hv1p (x2.trans x3)).2, ho, hp, fun H4 x4 => fin H4 ((x2.trans x3).trans x4) _ rfl⟩
  have c1 := of_decide_eq_false c1
  refine g_ifD lt (fun c2 H3 x3 => ?_) fun c2 H3 x3 => ?_
  · have c2 := of_decide_eq_true c2
    have x23 := x2.trans x3
    refine pick (fs := [fs.getD 4 0, fs.getD 5 0, fs.getD 6 0]) (sub2 4) (by omega) (by show _ < ((3 : Nat) : Int); omega) (by simp) fun f' hf' H4 x4 => ⟨f', rfl, A.h4 f' hf', v, rfl, b, v, [], d, rfl, rfl, (hv1p (x23.trans x4)).1, (hv1p (x23.trans x4)).2, ho, hp, fun H5 x5 => fin H5 ((x23.trans x4).trans x5) _ rfl⟩
  have c2 := of_decide_eq_false c2
  have x23 := x2.trans x3
  refine g_ifD lt (fun c3 H4 x4 => ?_) fun c3 H4 x4 => ?_
  · have c3 := of_decide_eq_true c3
    have x24 := x23.trans x4
    refine pick (fs := [fs.getD 7 0, fs.getD 8 0]) (sub2 7) (by omega) (by show _ < ((2 : Nat) : Int); omega) (by simp) fun f' hf' H5 x5 => ⟨f', rfl, A.h7 f' hf', v, rfl, y1, rfl, y2, rfl, b, v, [y1, y2], d, rfl, rfl, (hv1p (x24.trans x5)).1, (hv1p (x24.trans x5)).2, ho, hp, fun H6 x6 => fin H6 ((x24.trans x5).trans x6) _ rfl⟩
  have c3 := of_decide_eq_false c3
  have x24 := x23.trans x4
  refine g_ifD lt (fun c4 H5 x5 => ?_) fun c4 H5 x5 => ?_
  · have c4 := of_decide_eq_true c4
    have x25 := x24.trans x5
    refine pick (fs := [fs.getD 9 0, fs.getD 10 0]) (sub2 9) (by omega) (by show _ < ((2 : Nat) : Int); omega) (by simp) fun f' hf' H6 x6 => ⟨f', rfl, A.h9 f' hf', v, rfl, y1, rfl, y2, rfl, y3, rfl, b, v, [y1, y2, y3], d, rfl, rfl, (hv1p (x25.trans x6)).1, (hv1p (x25.trans x6)).2, ho, hp, fun H7 x7 => fin H7 ((x25.trans x6).trans x7) _ rfl⟩
  have c4 := of_decide_eq_false c4
  have x25 := x24.trans x5
  refine g_ifD lt (fun c5 H6 x6 => ?_) fun c5 H6 x6 => ?_
  · have c5 := of_decide_eq_true c5
    have x26 := x25.trans x6
    refine pick (fs := [fs.getD 11 0, fs.getD 12 0]) (sub2 11) (by omega) (by show _ < ((2 : Nat) : Int); omega) (by simp) fun f' hf' H7 x7 => ⟨f', rfl, A.h11 f' hf', v, rfl, y1, rfl, b, v, [y1], d, rfl, rfl, (hv1p (x26.trans x7)).1, (hv1p (x26.trans x7)).2, ho, hp, fun H8 x8 => fin H8 ((x26.trans x7).trans x8) _ rfl⟩
  have c5 := of_decide_eq_false c5
  have x26 := x25.trans x6
  refine g_ifD eq (fun c6 H7 x7 => ?_) fun c6 H7 x7 => ?_
  · have x27 := x26.trans x7
    exact ⟨v, rfl, y1, rfl, y2, rfl, b, v, [y1, y2], d, rfl, rfl, (hv1p x27).1, (hv1p x27).2, ho, hp, fun H8 x8 => fin H8 (x27.trans x8) _ rfl⟩
  have x27 := x26.trans x7
  refine g_ifD eq (fun c7 H8 x8 => ?_) fun c7 H8 x8 => ?_
  · have x28 := x27.trans x8
    obtain ⟨r, e1, e2⟩ := hgV v y1 y2 y3
    refine ⟨v, rfl, y1, rfl, y2, rfl, y3, rfl, rfl, rfl, ?_⟩
    show spNo K C 4 (gV [v, y1, y2] [y3]) H8 _ _
    rw [e1]
    exact ⟨b, v, r, d, rfl, e2, (hv1p x28).1, (hv1p x28).2, ho, hp, fun H9 x9 => fin H9 (x28.trans x9) _ rfl⟩
  have x28 := x27.trans x8
  refine ⟨v, rfl, y1, rfl, rfl, rfl, fun x dx hx hdx hne => ?_⟩
  have xn : Ex H8 (upd (upd H8 dx (.own x)) x (.ins CW dx [])) := (Ex.new hdx).trans (Ex.new (by rw [upd_ne (Ne.symm hne)]; exact hx))
  show spNoM K C (gV' [.ref x, v] [y1]) _ _ _
  rw [hgW]
  exact ⟨b, .ref x, v, y1, d, rfl, (hv1p (x28.trans xn)).1, (hv1p (x28.trans xn)).2, ho, hp, fun H9 x9 => fin H9 ((x28.trans xn).trans x9) _ rfl⟩
end
end Wr

set_option Elab.async false
set_option linter.all false
set_option maxRecDepth 100000
set_option maxHeartbeats 4000000
namespace Wr
open PySem PySem.Spec PyProof.Rows L2 Evl
/-! ### a program is told of -/
abbrev NPl : List Str := ["program", "part", "number", "name", "names", "rows"]
theorem sc_place : FnScope NPl ["program", "part"] (defScope s_place) := ⟨rfl, rfl, rfl, by decide +kernel, rfl, by decide +kernel, by decide +kernel⟩
def goodP : PyData := .tuple [.tuple [.str "main", .tuple [], .tuple [.tuple [.str "put", .int 0], .tuple [.str "back"]]]]
def spGo (K : PySem.W.Frag) : Sp := fun vs H Q _ => ∃ b v v2, vs = [v, v2] ∧ Kn b H ∧ Dq K b H v goodP ∧ Dq K b H v2 (.str "main") ∧ ∀ H', Ex H H' → Q (.int 0) H'
def spLaw (K : PySem.W.Frag) : Sp := fun vs H Q _ => ∃ (a : Addr) (ns : List Int), vs = [.ref a] ∧ SqL K H a (ns.map V.int) ∧ ns.length ≤ 1000 ∧ ∀ H', Q (.bl true) H'
def rMax2 : List V → Hp → VK → Prop := fun xs H Q => ∃ i j, xs = [.int i, .int j] ∧ Q (.int (if j > i then j else i)) H
def rMin2 : List V → Hp → VK → Prop := fun xs H Q => ∃ i j, xs = [.int i, .int j] ∧ Q (.int (if j < i then j else i)) H
theorem cr_max2 {X : Cx} (hc : X.calm = true) : CallR X (.builtin "max") rMax2 := call_max2 hc
theorem cr_min2 {X : Cx} (hc : X.calm = true) : CallR X (.builtin "min") rMin2 := call_min2 hc
theorem hid_nil (H : Hp) : hid [] H = H := by
  funext a
  exact hid_ne (by intro z; cases z)
theorem ints_dps {K : PySem.W.Frag} {H : Hp} : ∀ ns : List Int, DdAll K H (ns.map V.int) (ns.map PyData.int)
  | [] => .nil
  | n :: ns => .cons (.int n) (ints_dps ns)
theorem ex_exb {p : Addr} {H H1 H2 : Hp} (hp : H p = none) (x : Ex H H1) (y : ExB p H1 H2) : Ex H H2 := fun c o h => y c o (fun z => by rw [z, hp] at h; cases h) (x c o h)
section
variable {K : PySem.W.Frag} {b : List Addr} {σ : L2.St} {H H' : Hp} {ta tb te : TE}
theorem ed_max2 {i j : Int} (ha : ED K b ta σ H (.int i)) (hb : ED K b tb σ H (.int j)) : ED K b (tCB rMax2 (tCons ta (tCons tb tNil))) σ H (.int (if j > i then j else i)) := fun H1 x1 Q q =>
  ha H1 x1 _ fun v H2 x2 hv => hb H2 (x1.trans x2) _ fun u H3 x3 hu => ⟨i, j, by rw [dq_int hv, dq_int hu], q _ H3 (x2.trans x3) (.int _)⟩
theorem ed_min2 {i j : Int} (ha : ED K b ta σ H (.int i)) (hb : ED K b tb σ H (.int j)) : ED K b (tCB rMin2 (tCons ta (tCons tb tNil))) σ H (.int (if j < i then j else i)) := fun H1 x1 Q q =>
  ha H1 x1 _ fun v H2 x2 hv => hb H2 (x1.trans x2) _ fun u H3 x3 hu => ⟨i, j, by rw [dq_int hv, dq_int hu], q _ H3 (x2.trans x3) (.int _)⟩
theorem g_forR {D : Ends} {ts tbd : TS} {g : TG} {N : Int} (Pv : Nat → L2.St → Hp → Prop) (h : ED K b ta σ H (.int N)) (n0 : -(2 ^ 62) ≤ N) (n1 : N < 2 ^ 62) (h0 : ∀ H1, Ex H H1 → Pv 0 σ H1)
    (hs : ∀ i σ H, i < N.toNat → Pv i σ H → g (.int (0 + i)) σ H fun σ2 H2 => tbd { D with nx := Pv (i + 1), ct := Pv (i + 1), bk := ts D } σ2 H2) (hd : ∀ σ H, Pv N.toNat σ H → ts D σ H) : tSeq (tFor (iRng1 (tCons ta tNil)) g tbd) ts D σ H :=
  h H (Ex.refl H) _ fun v H1 x1 hv => by
    have e := dq_int hv
    subst e
    exact ⟨N, rfl, n0, n1, for_range Pv (h0 H1 x1) hs hd⟩
end
/-- a def that may raise, where it raises nothing -/
theorem FnOk.calmN {P : Program} {w : World} {K : PySem.W.Frag} {mg : Str → Option Value} {base : Heap} {k : Nat} {f : Addr} {fd : FuncData} {ps : List Str} {sp : Sp} (F : FnOk P w K mg base (L2N.CX P w) k f fd ps sp) : FnOk P w K mg base CX0 k f fd ps (fun vs H Q _ => sp vs H Q fun _ _ _ => False) :=
  ⟨fun vs H Q E h => F.len vs H Q _ h, fun A outer s H args us vs Q E hr e0 hb rv hsp => codeAny_mono (F.run A outer s H args us vs Q _ hr e0 hb rv hsp) fun r s' h => by
    rcases r with e | fl
    · obtain ⟨_, _, _, _, _, _, _, _, _, _, _, _, z⟩ := h
      exact z.elim
    · rcases fl with _ | _ | _ | u
      all_goals exact h⟩
abbrev NW : List Str := ["_law_script", "_law_at", "_law_bag_here", "_law_deed"]
theorem sc_law : FnScope NW ["_law_script"] (defScope s_law) := ⟨rfl, rfl, rfl, by decide +kernel, rfl, by decide +kernel, by decide +kernel⟩
section
variable {P : Program} {w : World} {K : PySem.W.Frag} {mg : Str → Option Value} {base : Heap} {C f g g1 g2 g3 g4 : Addr} {fd gd gd1 gd2 gd3 gd4 : FuncData}
theorem ok_place0 (D : Def K mg "place_of" s_place ["program", "part"] f fd) (B : Blt mg) : FnOk P w K mg base CX0 1 f fd ["program", "part"] (spGo K) := by
  refine D.F.ok sc_place (fun vs H Q E ⟨_, _, _, e, _⟩ => by rw [e]; rfl) (fun cdv A outer s H vs Q E hr h => ?_)
  obtain ⟨b, v, v2, rfl, kn, h1, h2, q⟩ := h
  refine ⟨_, pss_cons (ps_for PassesOwn.never rfl (pi_enumT rfl B.enum (pa_cons (pv 0) pa_nil)) (pg_tup rfl (pgs_cons (pg_name (i := 2) sc_place.nd rfl (Or.inl rfl)) (pgs_cons (pg_tup rfl (pgs_cons (pg_name (i := 3) sc_place.nd rfl (Or.inl rfl)) (pgs_cons (pg_name (i := 4) sc_place.nd rfl (Or.inl rfl)) (pgs_cons (pg_name (i := 5) sc_place.nd rfl (Or.inl rfl)) pgs_nil)))) pgs_nil)))
      (pss_one (ps_if (pt_cmpR (op_eqD (hu64 hr)) (pv 3) (pv 1) (nomark _)) (pss_one (ps_ret (pv 2))) pss_nil)))
    (pss_one ps_off), ?_⟩
  have h1c := h1
  cases h1c with
  | @tup a xs _ g1 gn g2 =>
  have hl := dps_len g2
  refine ⟨.ref a, rfl, a, xs, rfl, ex_t hid_le g1, ?_⟩
  refine for_it walk_enumT (fun i σ' H' => i = 0 ∧ (∃ y2 y3 y4 y5, σ' = [some (.ref a), some v2, y2, y3, y4, y5]) ∧ Ex H H') ⟨rfl, ⟨none, none, none, none, rfl⟩, Ex.refl H⟩ (fun i σ' H' _ p => ex_t p.2.2 (ex_t hid_le g1)) ?_ ?_
  · intro i x σ' H' H2 hi ⟨i0, ⟨y2, y3, y4, y5, eσ⟩, xH⟩ ⟨T', y1, yy, ex, nT, eH, e3, e4⟩
    subst i0 eσ ex eH
    have e3' : y1 = .int ((0 : Nat) : Int) := (Option.some.inj e3).symm
    subst e3'
    obtain ⟨d, gd', dd⟩ := dps_at g2 e4
    cases gd'
    have xT : Ex H' (upd H' T' (.tup [.int ((0 : Nat) : Int), yy])) := Ex.new nT
    have x2 := xH.trans xT
    have dd2 : Dq K b (upd H' T' (.tup [.int ((0 : Nat) : Int), yy])) yy (.tuple [.str "main", .tuple [], .tuple [.tuple [.str "put", .int 0], .tuple [.str "back"]]]) := Dq.up dd x2
    cases dd2 with
    | @tup a2 xs2 _ k1 kn2 k2 =>
    cases k2 with
    | @cons v3 _ _ _ m1 k2 =>
    cases k2 with
    | @cons v4 _ _ _ m2 k2 =>
    cases k2 with
    | @cons v5 _ _ _ m3 k2 =>
    cases k2
    refine ⟨T', [.int ((0 : Nat) : Int), .ref a2], rfl, .inl (.inl upd_same), rfl, .int ((0 : Nat) : Int), [.ref a2], rfl, .ref a2, [], rfl, ⟨a2, [v3, v4, v5], rfl, ex_t hid_le k1, rfl, v3, [v4, v5], rfl, v4, [v5], rfl, v5, [], rfl, rfl, rfl, ?_⟩⟩
    have t1 := et_t (ed_eq (K := K) (b := b) (σ := [some (.ref a), some v2, some (.int ((0 : Nat) : Int)), some v3, some v4, some v5]) (ed_var (i := 3) rfl m1) (ed_var (i := 1) rfl (Dq.up h2 x2)) (by decide +kernel) (by decide +kernel))
    refine t1 _ (Ex.refl _) _ fun H3 x3 => ?_
    rw [strEq, decide_eq_true rfl, if_pos rfl]
    exact ⟨.int ((0 : Nat) : Int), rfl, q H3 (x2.trans x3)⟩
  · intro σ' H' ⟨i0, _⟩
    rw [hl] at i0
    cases i0
theorem ok_pn0 (D : Def K mg "part_number" s_part_number P_part_number f fd) (Dc : Def K mg "check_program" s_check ["thing"] g gd) (Gc : CkN P w K mg base C g gd) (Dp : Def K mg "place_of" s_place ["program", "part"] g1 gd1) (Gp : FnOk P w K mg base CX0 1 g1 gd1 ["program", "part"] (spGo K)) : FnOk P w K mg base (L2N.CX P w) 7 f fd P_part_number (spGo K) := by
  refine okN D.F sc_part_number (fun vs H Q E ⟨_, _, _, e, _⟩ => by rw [e]; rfl) (fun cdv A outer s H vs Q E hr h => ?_)
  obtain ⟨b, v, v2, rfl, kn, h1, h2, q⟩ := h
  refine ⟨_, pss_cons (ps_expr (pe_callS (E := WE fun cls d _ H => E cls d H) Gc hr rfl Dc.m Dc.F.kp Dc.b (fun σ => L2N.passAt (L2N.takes_of rfl rfl rfl rfl) σ) (pa_cons (pv 0) pa_nil)))
    (pss_one (ps_ret (pe_cd Dp Gp (hr.mono (by decide)) (pa_cons (pv 0) (pa_cons (pv 1) pa_nil))))), ?_⟩
  have gp : okD 30 goodP = true ∧ progD goodP = true := by decide +kernel
  refine ⟨v, rfl, b, goodP, kn, ed_thing h1, gp.1, fun _ H1 x1 => ?_, fun hn => absurd (hn.symm.trans gp.2) (by decide)⟩
  exact ⟨v, rfl, v2, rfl, b, v, v2, rfl, kn.up x1, Dq.up h1 x1, Dq.up h2 x1, fun H2 x2 => q H2 (x1.trans x2)⟩
theorem ok_law (D : Def K mg "law" s_law ["_law_script"] f fd) (B : Blt mg) (B2 : Blt2 mg) (D1 : Def K mg "_law_bag" s_bag ["_law_script", "_law_at"] g1 gd1) (G1 : FnOk P w K mg base CX0 1 g1 gd1 ["_law_script", "_law_at"] (spBag K))
    (D2 : Def K mg "_law_none" s_no ["_law_bag_here"] g2 gd2) (G2 : FnOk P w K mg base CX0 2 g2 gd2 ["_law_bag_here"] (spG K 1 (· = []) fun _ d => d ∈ noneL))
    (D3 : Def K mg "_law_asked" s_as PAs g3 gd3) (G3 : FnOk P w K mg base CX0 10 g3 gd3 PAs (spAs K))
    (D4 : Def K mg "part_number" s_part_number P_part_number g4 gd4) (G4 : FnOk P w K mg base (L2N.CX P w) 7 g4 gd4 P_part_number (spGo K)) : FnOk P w K mg base CX0 11 f fd ["_law_script"] (spLaw K) := by
  refine D.F.ok sc_law (fun vs H Q E ⟨a, ns, e, _⟩ => by rw [e]; rfl) (fun cdv A outer s H vs Q E hr h => ?_)
  obtain ⟨a, ns, rfl, hS, hn, q⟩ := h
  have r1 : Room 1 _ := hr.mono (by decide)
  have r2 : Room 2 _ := hr.mono (by decide)
  have r7 : Room 7 _ := hr.mono (by decide)
  have G4 := FnOk.calmN G4
  refine ⟨_, pss_cons (ps_for PassesOwn.never rfl (pi_range1 rfl B.range (pa_cons (pe_callB (cr_max2 rfl) rfl B2.max bb_max (pa_cons pe_int (pa_cons (pe_callB (cr_min2 rfl) rfl B2.min bb_min (pa_cons pe_int (pa_cons (pe_callB call_lenD1 rfl B.len bb_len (pa_cons (pv 0) pa_nil)) pa_nil))) pa_nil))) pa_nil)) (pg_name (i := 1) sc_law.nd rfl (Or.inl rfl)) (pss_cons (ps_set (i := 2) sc_law.nd rfl (Or.inl rfl) (pe_cd D1 G1 r1 (pa_cons (pv 0) (pa_cons (pv 1) pa_nil))))
    (pss_one (ps_for PassesOwn.never rfl (pi_range1 rfl B.range (pa_cons pe_int pa_nil)) (pg_name (i := 3) sc_law.nd rfl (Or.inl rfl)) (pss_one (ps_if (pt_cmpR op_ne (pe_cd D3 G3 hr (pa_cons (pv 2) (pa_cons (pe_cd D2 G2 r2 (pa_cons (pv 2) pa_nil)) (pa_cons (pv 3) pa_nil)))) pe_str (nomark _)) (pss_one (ps_ret pe_bl)) pss_nil))))))
    (pss_one (ps_ret (pe_cmpR op_eq (pe_cd D4 G4 r7 (pa_cons (pe_tupF (pa_cons (pe_tupF (pa_cons pe_str (pa_cons (pe_tupF pa_nil) (pa_cons (pe_tupF (pa_cons (pe_tupF (pa_cons pe_str (pa_cons pe_int pa_nil))) (pa_cons (pe_tupF (pa_cons pe_str pa_nil)) pa_nil))) pa_nil)))) pa_nil)) (pa_cons pe_str pa_nil))) pe_int (nomark _)))), ?_⟩
  have hsl : sizeLine = 16777216 := sizeLine_eq
  have hD : ∀ {H'}, Ex H H' → Dq K [] H' (.ref a) (.list (ns.map .int)) := fun {H'} x => by
    show Dd K (hid [] H') _ _
    rw [hid_nil]
    exact .lst (ex_l x hS) (ints_dps ns)
  have kn0 : ∀ {H' : Hp}, Kn [] H' := fun z hz => nomatch hz
  have cnt := ed_max2 (K := K) (b := []) (ed_int (i := 2)) (ed_min2 (ed_int (i := 5)) (ed_len (ed_var (σ := start NW [.ref a]) (i := 0) rfl (hD (Ex.refl H))) (.inr (.inl rfl)) fun y e => by cases e))
  have c0 : ∀ ll : Int, 2 ≤ (if (if ll < 5 then ll else 5) > 2 then (if ll < 5 then ll else 5) else 2) ∧ (if (if ll < 5 then ll else 5) > 2 then (if ll < 5 then ll else 5) else 2) ≤ 5 := fun ll => by
    by_cases h1 : ll < 5
    · rw [if_pos h1]
      by_cases h2 : ll > 2
      · rw [if_pos h2]; omega
      · rw [if_neg h2]; omega
    · rw [if_neg h1, if_pos (by decide)]; omega
  have c1 := c0 ((lenD (.list (ns.map PyData.int)) : Nat) : Int)
  generalize (if (if ((lenD (.list (ns.map PyData.int)) : Nat) : Int) < 5 then ((lenD (.list (ns.map PyData.int)) : Nat) : Int) else 5) > 2 then (if ((lenD (.list (ns.map PyData.int)) : Nat) : Int) < 5 then ((lenD (.list (ns.map PyData.int)) : Nat) : Int) else 5) else 2) = N at c1 cnt
  refine g_forR (Pv := fun i σ' H' => (∃ y1 y2 y3, σ' = [some (.ref a), y1, y2, y3]) ∧ Ex H H') cnt (by omega) (by omega) (fun H1 x1 => ⟨⟨none, none, none, rfl⟩, x1⟩) ?_ ?_
  · intro i σ' H' hi ⟨⟨y1, y2, y3, eσ⟩, xH⟩
    subst eσ
    refine ⟨.ref a, rfl, .int (0 + i), rfl, [], ns, 0 + i, kn0, ?_, by omega, by omega, fun p H2 hp x2 bg => ?_⟩
    · exact .cons (hD xH) (.cons (.int _) .nil)
    have hp0 : H p = none := by
      cases z : H p with
      | none => rfl
      | some o => rw [xH _ _ z] at hp; cases hp
    have hab : p ∈ [p] := List.mem_singleton.mpr rfl
    refine ⟨16, rfl, by decide, by decide, ?_⟩
    refine for_range (Pv := fun j σ'' H'' => (∃ z3, σ'' = [some (.ref a), some (.int (0 + i)), some (.ref p), z3]) ∧ ExB p H2 H'' ∧ Bag p (1000000 - 4 * j) H'') ⟨⟨y3, rfl⟩, ExB.refl p H2, bg⟩ ?_ ?_
    · intro j σ'' H4 hj ⟨⟨z3, eσ⟩, x4, b4⟩
      subst eσ
      have hj16 : j < 16 := hj
      obtain ⟨m, hm⟩ : ∃ m, m = 1000000 - 4 * (j + 1) := ⟨_, rfl⟩
      have em : 1000000 - 4 * j = m + 1 + 1 + 1 + 1 := by omega
      rw [em] at b4
      rw [← hm]
      have kn4 := b4.kn
      show tIfS _ _ _ _ [some (.ref a), some (.int (0 + i)), some (.ref p), some (.int (0 + j))] H4
      have eg : EG K [p] p (m + 1 + 1 + 1 + 1) (m + 1 + 1 + 1) (tCall (spG K 1 (· = []) fun _ d => d ∈ noneL) [] E0 (tCons (tVar 2) tNil)) [some (V.ref a), some (.int (0 + i)), some (.ref p), some (.int (0 + j))] H4 (· ∈ noneL) := eg_call (c := 1) (S := (· = [])) hab rfl ega_nil (fun _ e => e) fun _ _ _ z => z
      refine ⟨.ref p, rfl, eg H4 (ExB.refl p H4) kn4 b4 _ fun vd dd H5 x5 b5 hv hm' => ⟨.int (0 + j), rfl, ?_⟩⟩
      obtain ⟨ok1, pg1⟩ := none_all hm'
      refine ⟨[p], p, m, vd, dd, j, ?_, hab, b5.kn, b5, hv, ok1, pg1, hj16, fun H6 x6 b6 => ?_⟩
      · rw [Int.zero_add]
        rfl
      refine ⟨rfl, false, ?_, ?_⟩
      · rw [decide_eq_true rfl]
        rfl
      show (if false = true then _ else _)
      rw [if_neg Bool.false_ne_true]
      exact ⟨⟨_, rfl⟩, x4.trans (x5.trans x6), b6⟩
    · intro σ'' H4 ⟨⟨z3, eσ⟩, x4, b4⟩
      subst eσ
      exact ⟨⟨_, _, _, rfl⟩, ex_exb hp0 (xH.trans x2) x4⟩
  · intro σ' H' ⟨⟨y1, y2, y3, eσ⟩, xH⟩
    subst eσ
    have s1 : ∀ {x : PyData}, [x].length ≤ sizeLine := fun {x} => by show 1 ≤ sizeLine; omega
    have s2 : ∀ {x y : PyData}, [x, y].length ≤ sizeLine := fun {x y} => by show 2 ≤ sizeLine; omega
    have s3 : ∀ {x y z : PyData}, [x, y, z].length ≤ sizeLine := fun {x y z} => by show 3 ≤ sizeLine; omega
    have hg : ED K [] (tTupF (tCons (tTupF (tCons (tC (.str "main")) (tCons (tTupF tNil) (tCons (tTupF (tCons (tTupF (tCons (tC (.str "put")) (tCons (tC (.int 0)) tNil))) (tCons (tTupF (tCons (tC (.str "back")) tNil)) tNil))) tNil)))) tNil)) [some (V.ref a), y1, y2, y3] H' goodP := ed_tup kn0 (ea_cons (ed_tup kn0 (ea_cons ed_str (ea_cons (ed_tup kn0 ea_nil (by decide)) (ea_cons (ed_tup kn0 (ea_cons (ed_tup kn0 (ea_cons ed_str (ea_cons ed_int ea_nil)) s2) (ea_cons (ed_tup kn0 (ea_cons ed_str ea_nil) s1) ea_nil)) s2) ea_nil))) s3) ea_nil) s1
    have e1 : ED K [] (tCall (fun vs H Q _ => spGo K vs H Q fun _ _ _ => False) [] E0 (tCons (tTupF (tCons (tTupF (tCons (tC (.str "main")) (tCons (tTupF tNil) (tCons (tTupF (tCons (tTupF (tCons (tC (.str "put")) (tCons (tC (.int 0)) tNil))) (tCons (tTupF (tCons (tC (.str "back")) tNil)) tNil))) tNil)))) tNil)) (tCons (tC (.str "main")) tNil))) [some (V.ref a), y1, y2, y3] H' (.int 0) := fun H1 x1 Q' q' => (ea_cons hg (ea_cons (ed_str (x := "main")) ea_nil)) H1 x1 (fun vs H2 => spGo K (vs ++ []) H2 Q' fun _ _ _ => False) fun vs H2 x2 hvs => by
      cases hvs with
      | @cons vg _ _ _ h2 hvs =>
      cases hvs with
      | @cons v2 _ _ _ h3 hvs =>
      cases hvs
      exact ⟨[], vg, v2, rfl, kn0, h2, h3, fun H3 x3 => q' _ H3 (x2.trans x3) (.int 0)⟩
    refine (ed_op (K := K) (b := []) (r := rEq) (z := .bool true) e1 (ed_int (i := 0)) (fun H1 x y Q' _ hx hy q' => by
      rw [dq_int hx, dq_int hy]
      refine ⟨rfl, ?_⟩
      rw [decide_eq_true rfl]
      exact q' _ H1 (Ex.refl H1) (.bl true))) H' (Ex.refl H') _ fun v H3 x3 hv => ?_
    rw [dq_bl hv]
    exact q H3
end
end Wr

set_option Elab.async false
set_option linter.all false
set_option maxRecDepth 100000
set_option maxHeartbeats 0
namespace Wr
open PySem PySem.Spec PyProof.Rows L2
theorem facts {l : PySem.W.OpenLaw} {w : World} {K : PySem.W.Frag} {h : Heap} {mg : Str → Option Value} {fa : Addr} (X : K.In h) (G : h.Ns mainGlobals mg) (hfa : mg "law" = some (.ref fa)) (c : Hd.Says faL fnL exL K) :
    ∃ fd : FuncData, (∀ (s : Shared) (v : Value), BindsTo s fd ⟨[v], []⟩ [("_law_script", v)]) ∧ ∀ base : Heap, K.In base → base.Ns mainGlobals mg → FnOk l.prog w K mg base CX0 11 fa fd ["_law_script"] (spLaw K) := by
  obtain ⟨fd0, F0⟩ := c.d.def_ 0 (d := dF0) rfl
  have D0 := Hd.def_of (st := s_is_whole) (ps := ["thing"]) F0 (He.glo_ok X G (c.d.fact 0)) fun _ _ _ _ _ _ us hl => match us, hl with | [_], _ => rfl
  obtain ⟨fd1, F1⟩ := c.d.def_ 1 (d := dF1) rfl
  have D1 := Hd.def_of (st := s_is_worth) (ps := ["thing"]) F1 (He.glo_ok X G (c.d.fact 1)) fun _ _ _ _ _ _ us hl => match us, hl with | [_], _ => rfl
  obtain ⟨fd2, F2⟩ := c.d.def_ 2 (d := dF2) rfl
  have D2 := Hd.def_of (st := s_is_index) (ps := ["thing", "many"]) F2 (He.glo_ok X G (c.d.fact 2)) fun _ _ _ _ _ _ us hl => match us, hl with | [_, _], _ => rfl
  obtain ⟨fd3, F3⟩ := c.d.def_ 3 (d := dF3) rfl
  have D3 := Hd.def_of (st := s_is_name) (ps := ["thing"]) F3 (He.glo_ok X G (c.d.fact 3)) fun _ _ _ _ _ _ us hl => match us, hl with | [_], _ => rfl
  obtain ⟨fd4, F4⟩ := c.d.def_ 4 (d := dF4) rfl
  have D4 := Hd.def_of (st := s_are_names) (ps := ["thing"]) F4 (He.glo_ok X G (c.d.fact 4)) fun _ _ _ _ _ _ us hl => match us, hl with | [_], _ => rfl
  obtain ⟨fd5, F5⟩ := c.d.def_ 5 (d := dF5) rfl
  have D5 := Hd.def_of (st := s_are_unlike) (ps := ["names"]) F5 (He.glo_ok X G (c.d.fact 5)) fun _ _ _ _ _ _ us hl => match us, hl with | [_], _ => rfl
  obtain ⟨fd6, F6⟩ := c.d.def_ 6 (d := dF6) rfl
  have D6 := Hd.def_of (st := s_is_headed) (ps := ["thing"]) F6 (He.glo_ok X G (c.d.fact 6)) fun _ _ _ _ _ _ us hl => match us, hl with | [_], _ => rfl
  obtain ⟨fd7, F7⟩ := c.d.def_ 7 (d := dF7) rfl
  have D7 := Hd.def_of (st := s_are_headed) (ps := ["thing", "most"]) F7 (He.glo_ok X G (c.d.fact 7)) fun _ _ _ _ _ _ us hl => match us, hl with | [_, _], _ => rfl
  obtain ⟨fd8, F8⟩ := c.d.def_ 8 (d := dF8) rfl
  have D8 := Hd.def_of (st := s_is_program) (ps := ["thing"]) F8 (He.glo_ok X G (c.d.fact 8)) fun _ _ _ _ _ _ us hl => match us, hl with | [_], _ => rfl
  obtain ⟨fd9, F9⟩ := c.d.def_ 9 (d := dF9) rfl
  have D9 := Hd.def_of (st := s_are_rows) (ps := ["thing", "called"]) F9 (He.glo_ok X G (c.d.fact 9)) fun _ _ _ _ _ _ us hl => match us, hl with | [_, _], _ => rfl
  obtain ⟨fd10, F10⟩ := c.d.def_ 10 (d := dF10) rfl
  have D10 := Hd.def_of (st := s_is_row) (ps := ["thing", "at", "many", "called"]) F10 (He.glo_ok X G (c.d.fact 10)) fun _ _ _ _ _ _ us hl => match us, hl with | [_, _, _, _], _ => rfl
  obtain ⟨fd11, F11⟩ := c.d.def_ 11 (d := dF11) rfl
  have D11 := Hd.def_of (st := s_check) (ps := ["thing"]) F11 (He.glo_ok X G (c.d.fact 11)) fun _ _ _ _ _ _ us hl => match us, hl with | [_], _ => rfl
  obtain ⟨fd12, F12⟩ := c.d.def_ 12 (d := dF12) rfl
  have D12 := Hd.def_of (st := s_place) (ps := ["program", "part"]) F12 (He.glo_ok X G (c.d.fact 12)) fun _ _ _ _ _ _ us hl => match us, hl with | [_, _], _ => rfl
  obtain ⟨fd13, F13⟩ := c.d.def_ 13 (d := dF13) rfl
  have D13 := Hd.def_of (st := s_part_number) (ps := ["program", "part"]) F13 (He.glo_ok X G (c.d.fact 13)) fun _ _ _ _ _ _ us hl => match us, hl with | [_, _], _ => rfl
  obtain ⟨fd14, F14⟩ := c.d.def_ 14 (d := dF14) rfl
  have D14 := Hd.def_of (st := s_names_in) (ps := ["program", "part"]) F14 (He.glo_ok X G (c.d.fact 14)) fun _ _ _ _ _ _ us hl => match us, hl with | [_, _], _ => rfl
  obtain ⟨fd15, F15⟩ := c.d.def_ 15 (d := dF15) rfl
  have D15 := Hd.def_of (st := s_standings) (ps := ["program", "part"]) F15 (He.glo_ok X G (c.d.fact 15)) fun _ _ _ _ _ _ us hl => match us, hl with | [_, _], _ => rfl
  obtain ⟨fd16, F16⟩ := c.d.def_ 16 (d := dF16) rfl
  have D16 := Hd.def_of (st := s_part_paper) (ps := ["program", "part"]) F16 (He.glo_ok X G (c.d.fact 16)) fun _ _ _ _ _ _ us hl => match us, hl with | [_, _], _ => rfl
  obtain ⟨fd17, F17⟩ := c.d.def_ 17 (d := dF17) rfl
  have D17 := Hd.def_of (st := s_callers) (ps := ["program"]) F17 (He.glo_ok X G (c.d.fact 17)) fun _ _ _ _ _ _ us hl => match us, hl with | [_], _ => rfl
  obtain ⟨fd18, F18⟩ := c.d.def_ 18 (d := dF18) rfl
  have D18 := Hd.def_of (st := s_is_sound) (ps := ["program"]) F18 (He.glo_ok X G (c.d.fact 18)) fun _ _ _ _ _ _ us hl => match us, hl with | [_], _ => rfl
  obtain ⟨fd19, F19⟩ := c.d.def_ 19 (d := dF19) rfl
  have D19 := Hd.def_of (st := s_show_program) (ps := ["program"]) F19 (He.glo_ok X G (c.d.fact 19)) fun _ _ _ _ _ _ us hl => match us, hl with | [_], _ => rfl
  obtain ⟨fd20, F20⟩ := c.d.def_ 20 (d := dF20) rfl
  have D20 := Hd.def_of (st := s_row_at) (ps := ["program", "part", "row"]) F20 (He.glo_ok X G (c.d.fact 20)) fun _ _ _ _ _ _ us hl => match us, hl with | [_, _, _], _ => rfl
  obtain ⟨fd21, F21⟩ := c.d.def_ 21 (d := dF21) rfl
  have D21 := Hd.def_of (st := s_agree) (ps := ["program", "part", "one", "other"]) F21 (He.glo_ok X G (c.d.fact 21)) fun _ _ _ _ _ _ us hl => match us, hl with | [_, _, _, _], _ => rfl
  obtain ⟨fd22, F22⟩ := c.d.def_ 22 (d := dF22) rfl
  have D22 := Hd.def_of (st := s_rows_paper) (ps := ["program", "part", "one", "other"]) F22 (He.glo_ok X G (c.d.fact 22)) fun _ _ _ _ _ _ us hl => match us, hl with | [_, _, _, _], _ => rfl
  obtain ⟨fd23, F23⟩ := c.d.def_ 23 (d := dF23) rfl
  have D23 := Hd.def_of (st := s_is_hook) (ps := ["program", "thing"]) F23 (He.glo_ok X G (c.d.fact 23)) fun _ _ _ _ _ _ us hl => match us, hl with | [_, _], _ => rfl
  obtain ⟨fd24, F24⟩ := c.d.def_ 24 (d := dF24) rfl
  have D24 := Hd.def_of (st := s_holds) (ps := ["program", "thing"]) F24 (He.glo_ok X G (c.d.fact 24)) fun _ _ _ _ _ _ us hl => match us, hl with | [_, _], _ => rfl
  obtain ⟨fd25, F25⟩ := c.d.def_ 25 (d := dF25) rfl
  have D25 := Hd.def_of (st := s_bag) (ps := ["_law_script", "_law_at"]) F25 (He.glo_ok X G (c.d.fact 25)) fun _ _ _ _ _ _ us hl => match us, hl with | [_, _], _ => rfl
  obtain ⟨fd26, F26⟩ := c.d.def_ 26 (d := dF26) rfl
  have D26 := Hd.def_of (st := s_take) (ps := ["_law_bag_here", "_law_many"]) F26 (He.glo_ok X G (c.d.fact 26)) fun _ _ _ _ _ _ us hl => match us, hl with | [_, _], _ => rfl
  obtain ⟨fd27, F27⟩ := c.d.def_ 27 (d := dF27) rfl
  have D27 := Hd.def_of (st := s_ki) (ps := ["_law_e"]) F27 (He.glo_ok X G (c.d.fact 27)) fun _ _ _ _ _ _ us hl => match us, hl with | [_], _ => rfl
  obtain ⟨fd28, F28⟩ := c.d.def_ 28 (d := dF28) rfl
  have D28 := Hd.def_of (st := s_od) (ps := ["_law_bag_here"]) F28 (He.glo_ok X G (c.d.fact 28)) fun _ _ _ _ _ _ us hl => match us, hl with | [_], _ => rfl
  obtain ⟨fd29, F29⟩ := c.d.def_ 29 (d := dF29) rfl
  have D29 := Hd.def_of (st := s_no) (ps := ["_law_bag_here"]) F29 (He.glo_ok X G (c.d.fact 29)) fun _ _ _ _ _ _ us hl => match us, hl with | [_], _ => rfl
  obtain ⟨fd30, F30⟩ := c.d.def_ 30 (d := dF30) rfl
  have D30 := Hd.def_of (st := s_as) (ps := ["_law_bag_here", "_law_thing", "_law_deed"]) F30 (He.glo_ok X G (c.d.fact 30)) fun _ _ _ _ _ _ us hl => match us, hl with | [_, _, _], _ => rfl
  obtain ⟨fd31, F31⟩ := c.d.def_ 31 (d := dF31) rfl
  have D31 := Hd.def_of (st := s_law) (ps := ["_law_script"]) F31 (He.glo_ok X G (c.d.fact 31)) fun _ _ _ _ _ _ us hl => match us, hl with | [_], _ => rfl
  have e := hfa.symm.trans (He.glo_ok X G (c.d.fact 31))
  cases e
  have B : Blt mg := ⟨He.free_ok X G (c.d.fact 51), He.free_ok X G (c.d.fact 52), He.free_ok X G (c.d.fact 53), He.free_ok X G (c.d.fact 54), He.free_ok X G (c.d.fact 55), He.free_ok X G (c.d.fact 56), He.free_ok X G (c.d.fact 57), He.free_ok X G (c.d.fact 58), He.free_ok X G (c.d.fact 59), He.free_ok X G (c.d.fact 60), He.free_ok X G (c.d.fact 61)⟩
  have B2 : Blt2 mg := ⟨He.free_ok X G (c.d.fact 62), He.free_ok X G (c.d.fact 63), He.free_ok X G (c.d.fact 64), He.free_ok X G (c.d.fact 65)⟩
  obtain ⟨t1, M1⟩ := He.int_ok X G (c.d.fact 72)
  obtain ⟨t2, M2⟩ := He.int_ok X G (c.d.fact 73)
  obtain ⟨t3, M3⟩ := He.int_ok X G (c.d.fact 74)
  obtain ⟨t4, M4⟩ := He.int_ok X G (c.d.fact 75)
  obtain ⟨t5, M5⟩ := He.int_ok X G (c.d.fact 76)
  have Ws : Words K mg (He.ga K "NAME_WORDS") (He.ga K "ROW_WORDS") (He.ga K "LONE_WORDS") := ⟨He.glo_ok X G (c.d.fact 48), He.glo_ok X G (c.d.fact 49), He.glo_ok X G (c.d.fact 50), Hd.wordB_ok (c.at_ 28 rfl), Hd.wordB_ok (c.at_ 29 rfl), Hd.wordB_ok (c.at_ 30 rfl)⟩
  obtain ⟨q1, q2, q3, q4⟩ := He.exc_ok (c.d.fact 77)
  have NG : NgC K mg (He.ga K "NoProgram") := ⟨He.glo_ok X G (c.d.fact 36), q1, q2, q3, q4⟩
  have IT : IsxC K (He.ga K "NoProgram") := ⟨c.at_ 0 rfl, of_decide_eq_true (c.at_ 1 rfl), of_decide_eq_true (c.at_ 2 rfl), of_decide_eq_true (c.at_ 3 rfl), of_decide_eq_true (c.at_ 4 rfl), of_decide_eq_true (c.at_ 5 rfl), of_decide_eq_true (c.at_ 6 rfl), of_decide_eq_true (c.at_ 7 rfl)⟩
  have hdc : PySem.W.hasDictIn K (He.ga K "NoProgram") = true := c.at_ 8 rfl
  have KM : KiM mg [He.ga K "NoProgram", He.ga K "NoPart", He.ga K "NoRow", He.ga K "TooLong", He.ga K "Unsound", He.ga K "NoNumbers", He.ga K "NoHook", He.ga K "TooMany", He.ga K "Busy", He.ga K "NoText", He.ga K "NoWord", He.ga K "NoMark"] := ⟨He.glo_ok X G (c.d.fact 36), He.glo_ok X G (c.d.fact 37), He.glo_ok X G (c.d.fact 38), He.glo_ok X G (c.d.fact 39), He.glo_ok X G (c.d.fact 40), He.glo_ok X G (c.d.fact 41), He.glo_ok X G (c.d.fact 42), He.glo_ok X G (c.d.fact 43), He.glo_ok X G (c.d.fact 44), He.glo_ok X G (c.d.fact 45), He.glo_ok X G (c.d.fact 46), He.glo_ok X G (c.d.fact 47), He.free_ok X G (c.d.fact 66), He.free_ok X G (c.d.fact 67), He.free_ok X G (c.d.fact 68), He.free_ok X G (c.d.fact 69), He.free_ok X G (c.d.fact 70), He.free_ok X G (c.d.fact 71)⟩
  have KC : KiC K (He.ga K "NoProgram") [He.ga K "NoProgram", He.ga K "NoPart", He.ga K "NoRow", He.ga K "TooLong", He.ga K "Unsound", He.ga K "NoNumbers", He.ga K "NoHook", He.ga K "TooMany", He.ga K "Busy", He.ga K "NoText", He.ga K "NoWord", He.ga K "NoMark"] 0 [true, false, false, false, true, true, false, false, false, true, true, false] := ⟨by decide, fun j hj => match j, hj with
    | 0, _ => of_decide_eq_true (c.at_ 9 rfl)
    | 1, _ => of_decide_eq_true (c.at_ 10 rfl)
    | 2, _ => of_decide_eq_true (c.at_ 11 rfl)
    | 3, _ => of_decide_eq_true (c.at_ 12 rfl)
    | 4, _ => of_decide_eq_true (c.at_ 13 rfl)
    | 5, _ => of_decide_eq_true (c.at_ 14 rfl)
    | 6, _ => of_decide_eq_true (c.at_ 15 rfl)
    | 7, _ => of_decide_eq_true (c.at_ 16 rfl)
    | 8, _ => of_decide_eq_true (c.at_ 17 rfl)
    | 9, _ => of_decide_eq_true (c.at_ 18 rfl)
    | 10, _ => of_decide_eq_true (c.at_ 19 rfl)
    | 11, _ => of_decide_eq_true (c.at_ 20 rfl), fun j hj => match j, hj with
    | 0, _ => of_decide_eq_true (c.at_ 21 rfl)
    | 1, _ => of_decide_eq_true (c.at_ 22 rfl)
    | 2, _ => of_decide_eq_true (c.at_ 23 rfl)
    | 3, _ => of_decide_eq_true (c.at_ 24 rfl)
    | 4, _ => of_decide_eq_true (c.at_ 21 rfl)
    | 5, _ => of_decide_eq_true (c.at_ 21 rfl)
    | 6, _ => of_decide_eq_true (c.at_ 25 rfl)
    | 7, _ => of_decide_eq_true (c.at_ 24 rfl)
    | 8, _ => of_decide_eq_true (c.at_ 26 rfl)
    | 9, _ => of_decide_eq_true (c.at_ 21 rfl)
    | 10, _ => of_decide_eq_true (c.at_ 21 rfl)
    | 11, _ => of_decide_eq_true (c.at_ 22 rfl), rfl⟩
  have te := (of_decide_eq_true (c.at_ 27 rfl) : PySem.W.exmAny K (.ref (He.ga K "NoProgram")) [(.ref (He.ga K "NoProgram")), (.ref (He.ga K "NoPart")), (.ref (He.ga K "NoRow")), (.ref (He.ga K "Unsound")), (.ref (He.ga K "NoNumbers")), (.ref (He.ga K "NoHook")), (.ref (He.ga K "TooLong")), (.ref (He.ga K "TooMany")), (.ref (He.ga K "NoText")), (.ref (He.ga K "NoWord")), (.ref (He.ga K "NoMark")), (.ref (He.ga K "Busy"))] = some true)
  obtain ⟨fdB, FB⟩ := c.d.def_ 32 (d := dF32) rfl
  obtain ⟨fdL, FL⟩ := c.d.def_ 33 (d := dF33) rfl
  obtain ⟨fdR, FR⟩ := c.d.def_ 34 (d := dF34) rfl
  obtain ⟨fdW, FW⟩ := c.d.def_ 35 (d := dF35) rfl
  obtain ⟨dsB, vB, bB⟩ := FB.binds1 (ps := P_begun) 3 1 (by intro z; cases z) rfl fun T kV doc pm an cdv ct us its h1 h2 => match us, its, h1, h2 with | [_, _, _], [_], _, _ => ⟨_, rfl, rfl⟩
  cases vB
  obtain ⟨dsL, vL, bL⟩ := FL.binds (ps := P_walked) 3 1 (by intro z; cases z) rfl (fun T D' doc pm an cdv ct us its ks h1 h2 h3 => match us, its, ks, h1, h2, h3 with | [_, _, _], [_], [_], _, _, _ => ⟨_, rfl, ⟨_, _, _, _, _, _, rfl, rfl, rfl⟩⟩) (by intro z; cases z)
  obtain ⟨itR, mvR, bR⟩ := FR.kbinds (ps := P_run_paper) 3 ["hooks"] [("most", V.int 40)] (fun vs ds mz zs => vs ++ (zs ++ mz)) (by intro z; cases z) (by intro z; cases z) (fun q hq => hq) (fun r1 r2 r3 r4 => r1.append (r4.append r3)) fun T D' doc pm an cdv ct us its mv ws h1 h2 h3 h4 => match us, its, mv, ws, h1, h2, h3, h4 with | [_, _, _], [_], [_], [_], _, _, _, _ => ⟨_, rfl, ⟨_, _, _, _, _, _, rfl, rfl, rfl⟩⟩
  obtain ⟨mvW, bW⟩ := FW.kbinds0 (ps := P_wi) 2 ["hooks"] [] (fun vs mz zs => vs ++ zs) (by intro z; cases z) (fun q hq => by cases hq) (fun r1 r2 r3 => r1.append r3) fun D' doc pm an cdv ct us mv ws h1 h2 h3 => match us, mv, ws, h1, h2, h3 with | [_, _], [], [_], _, _, _ => rfl
  have MW := He.mkr_ok (c.d.fact 78)
  refine ⟨fd31, fun s v => ?_, fun base _ _ => ?_⟩
  · exact F31.bindsA (ps := ["_law_script"]) (fun _ _ _ _ _ _ us hl => match us, hl with | [_], _ => rfl) s [v] rfl
  have g1 := ok_is_name (P := l.prog) (w := w) (base := base) D3 B M2
  have g2 := ok_are_names (P := l.prog) (w := w) (base := base) D4 D3 D5 B M2 M3
  have g3 := ok_is_headed D6 D3 g1 D4 g2 B
  have g4 := ok_are_headed D7 D6 g3 D5 B
  have g5 := ok_is_worth (P := l.prog) (w := w) (base := base) D1 D0 B M1
  have g6 := ok_is_index (P := l.prog) (w := w) (base := base) D2 D0 B
  have g7 := ok_is_row D10 D1 g5 D3 g1 D2 g6 B Ws
  have g8 := ok_are_rows D9 D10 g7 B M4
  have g9 := ok_is_program D8 D7 g4 D9 g8 B M5
  have gck : CkN l.prog w K mg base (He.ga K "NoProgram") _ _ := ok_checkN NG D11 D8 g9
  have n_part_number := no_part_number D13 D11 gck
  have n_names_in := no_names_in D14 D11 gck
  have n_standings := no_standings D15 D11 gck
  have n_part_paper := no_part_paper D16 D11 gck
  have n_callers := no_callers D17 D11 gck
  have n_is_sound := no_is_sound D18 D11 gck
  have n_show_program := no_show_program D19 D11 gck
  have n_row_at := no_row_at D20 D11 gck
  have n_agree := no_agree D21 D11 gck
  have n_rows_paper := no_rows_paper D22 D11 gck
  have n_is_hook := no_is_hook D23 D11 gck
  have n_holds := no_holds D24 D11 gck
  have n_begun := no_begun FB D11 gck
  have n_walked := no_walked FL (He.glo_ok X G (c.d.fact 33)) FB.kp bB n_begun
  have n_rp := no_run_paper FR D11 gck
  have n_wi := no_wi FW D11 gck
  have AS : AskC l.prog w K mg base (He.ga K "NoProgram") [He.ga K "part_number", He.ga K "names_in", He.ga K "standings", He.ga K "part_paper", He.ga K "callers", He.ga K "is_sound", He.ga K "show_program", He.ga K "row_at", He.ga K "walked", He.ga K "agree", He.ga K "rows_paper", He.ga K "is_hook", He.ga K "holds"] := ⟨He.glo_ok X G (c.d.fact 13), He.glo_ok X G (c.d.fact 14), He.glo_ok X G (c.d.fact 15), He.glo_ok X G (c.d.fact 16), He.glo_ok X G (c.d.fact 17), He.glo_ok X G (c.d.fact 18), He.glo_ok X G (c.d.fact 19), He.glo_ok X G (c.d.fact 20), He.glo_ok X G (c.d.fact 32), He.glo_ok X G (c.d.fact 21), He.glo_ok X G (c.d.fact 22), He.glo_ok X G (c.d.fact 23), He.glo_ok X G (c.d.fact 24), (fun f hf => by
    rcases List.mem_cons.mp hf with rfl | hf
    · exact ⟨⟨fd13, P_part_number, [], [], FnOk.up n_part_number (by decide), D13.F.kp, D13.b, .nil⟩⟩
    rcases List.mem_cons.mp hf with rfl | hf
    · exact ⟨⟨fd14, P_names_in, [], [], FnOk.up n_names_in (by decide), D14.F.kp, D14.b, .nil⟩⟩
    rcases List.mem_cons.mp hf with rfl | hf
    · exact ⟨⟨fd15, P_standings, [], [], FnOk.up n_standings (by decide), D15.F.kp, D15.b, .nil⟩⟩
    rcases List.mem_cons.mp hf with rfl | hf
    · exact ⟨⟨fd16, P_part_paper, [], [], FnOk.up n_part_paper (by decide), D16.F.kp, D16.b, .nil⟩⟩
    exact absurd hf List.not_mem_nil), (fun f hf => by
    rcases List.mem_cons.mp hf with rfl | hf
    · exact ⟨⟨fd17, P_callers, [], [], FnOk.up n_callers (by decide), D17.F.kp, D17.b, .nil⟩⟩
    rcases List.mem_cons.mp hf with rfl | hf
    · exact ⟨⟨fd18, P_is_sound, [], [], FnOk.up n_is_sound (by decide), D18.F.kp, D18.b, .nil⟩⟩
    rcases List.mem_cons.mp hf with rfl | hf
    · exact ⟨⟨fd19, P_show_program, [], [], FnOk.up n_show_program (by decide), D19.F.kp, D19.b, .nil⟩⟩
    exact absurd hf List.not_mem_nil), (fun f hf => by
    rcases List.mem_cons.mp hf with rfl | hf
    · exact ⟨⟨fd20, P_row_at, [], [], FnOk.up n_row_at (by decide), D20.F.kp, D20.b, .nil⟩⟩
    rcases List.mem_cons.mp hf with rfl | hf
    · exact ⟨⟨fdL, P_walked, dsL, [V.int 200], n_walked, FL.kp, bL, vL⟩⟩
    exact absurd hf List.not_mem_nil), (fun f hf => by
    rcases List.mem_cons.mp hf with rfl | hf
    · exact ⟨⟨fd21, P_agree, [], [], FnOk.up n_agree (by decide), D21.F.kp, D21.b, .nil⟩⟩
    rcases List.mem_cons.mp hf with rfl | hf
    · exact ⟨⟨fd22, P_rows_paper, [], [], FnOk.up n_rows_paper (by decide), D22.F.kp, D22.b, .nil⟩⟩
    exact absurd hf List.not_mem_nil), (fun f hf => by
    rcases List.mem_cons.mp hf with rfl | hf
    · exact ⟨⟨fd23, P_is_hook, [], [], FnOk.up n_is_hook (by decide), D23.F.kp, D23.b, .nil⟩⟩
    rcases List.mem_cons.mp hf with rfl | hf
    · exact ⟨⟨fd24, P_holds, [], [], FnOk.up n_holds (by decide), D24.F.kp, D24.b, .nil⟩⟩
    exact absurd hf List.not_mem_nil)⟩
  have god := ok_od (P := l.prog) (w := w) (base := base) D28 D26
  have gno := ok_no (P := l.prog) (w := w) (base := base) D29 D26 B
  have gki := ok_ki (P := l.prog) (w := w) (base := base) D27 KM B
  have gas := ok_as D30 D28 god D27 gki KM KC IT hdc te AS (He.glo_ok X G (c.d.fact 33)) FB.kp bB n_begun (He.glo_ok X G (c.d.fact 34)) FR.kp bR (fun u1 u2 u3 z => ⟨_, rfl, rfl⟩) n_rp (He.glo_ok X G (c.d.fact 35)) MW bW (fun u1 u2 z => rfl) n_wi
  have gbag := ok_bag (P := l.prog) (w := w) (base := base) D25 B B2
  have gpl := ok_place0 (P := l.prog) (w := w) (base := base) D12 B
  have gpn := ok_pn0 D13 D11 gck D12 gpl
  exact ok_law D31 B B2 D25 gbag D29 gno D30 gas D13 gpn
end Wr

set_option Elab.async false
set_option linter.all false
open PySem PySem.W PySem.Calls PyProof.Rows
set_option maxRecDepth 100000 in
set_option maxHeartbeats 0 in
theorem PySem.Challenge.cw_watchedrun_k02_first_of_all_no_program_holds : PySem.Challenge.rw_watchedrun_k02_first_of_all_no_program.Holds := by
  w_on; o_law
  refine HandSHeadRun.head_any (r := OpenLaw.row PySem.Challenge.rw_watchedrun_k02_first_of_all_no_program) (q := Wr.qW) (H := Wr.hkW) (ob := Wr.obW) (M := 30000) (loose := Wr.nms) (d := HandSHeadRun.topDef (OpenLaw.row PySem.Challenge.rw_watchedrun_k02_first_of_all_no_program).prog 158) (kwd := []) Wr.obW_eq
    (by kernel_rfl) (fun s => by kernel_rfl) Wr.runW (by kernel_rfl) (by kernel_rfl) (by kernel_rfl) (by rfl) (by first | assumption | decide +kernel) (by decide +kernel) ⟨rfl, rfl, rfl, rfl, rfl, by decide +kernel⟩ ?hw ?hc
  case hw => w_witness2
  case hc =>
    refine L2.walk_ofE (l := PySem.Challenge.rw_watchedrun_k02_first_of_all_no_program) (n := 63) (k := 11) (x := "_law_script") (CX := L2.CX0) rfl (by decide) (by kernel_rfl) ⟨rfl, by decide, by decide⟩ ?F (fun _ _ _ _ z => z)
    intro w mg fa h Y G hmg0
    obtain ⟨K, KX, c⟩ := Y
    have hmg : mg ("law" : PySem.Str) = some (.ref fa) := by
      have e : (HandSHeadRun.topDef (OpenLaw.row PySem.Challenge.rw_watchedrun_k02_first_of_all_no_program).prog 158).name = ("law" : PySem.Str) := by kernel_rfl
      rw [← e]
      exact hmg0
    obtain ⟨fd, hb, hF⟩ := Wr.facts (l := PySem.Challenge.rw_watchedrun_k02_first_of_all_no_program) (w := w) KX G hmg c
    exact ⟨K, fd, Wr.spLaw K, KX, hb, fun H a ns hl _ hS => ⟨a, ns, rfl, hS, Nat.le_trans hl (by decide), fun _ => rfl⟩, hF⟩
