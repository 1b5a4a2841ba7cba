import PyProof.Rows.All
import Wide.All
import OpenK.AllK
import Wide.FinOn
import HandS.ForMost
import HandS.ForExc
import HandS.IsInst
import HandS.Deep
import HandS.StrMore
import HandS.SetKeys
import HandS.TupAny
import HandS.Style
import HandS.Evl
import HandS.Walk
import HandS.Wide
import KE.GoesMore
import KE.GoesEnum
import HandS.Strs
import HandS.Sort
import HandS.TupLe
import PyProof.ReprLen
import PyProof.ReprRoads
import PyProof.Rows.RegStrFacts
import HandS.ExcInit
import PyProof.ExcBaseAll.IndexError
import PyProof.ExcBaseAll.LookupError
import HandS.WordsExc
import HandS.ExcField
import HandS.FStr
import HandS.ExcOwn
import HandS.DictComp
import HandS.Zip
import PyProof.ExcBaseAll.Exception
import HandS.Lambda
import HandS.Defaults
import HandS.WordsDict
import HandS.More
import HandS.Dict
import PySem.Challenge.RW_watchedrun_k12_values_reckoned
set_option Elab.async false
set_option linter.all false
set_option maxRecDepth 100000
set_option maxHeartbeats 4000000
namespace Wr
open PySem PySem.Spec PyProof.Rows L2 Evl

/-! ### heaps with some addresses hidden -/
def hid (b : List Addr) (H : Hp) : Hp := fun a => if a ∈ b then none else H a
def Kn (b : List Addr) (H : Hp) : Prop := ∀ a ∈ b, H a ≠ none
theorem hid_ne {b : List Addr} {H : Hp} {a : Addr} (h : a ∉ b) : hid b H a = H a := if_neg h
theorem hid_some {b : List Addr} {H : Hp} {a : Addr} {o : HO} (h : hid b H a = some o) : a ∉ b ∧ H a = some o := by
  unfold hid at h
  by_cases e : a ∈ b
  · rw [if_pos e] at h
    cases h
  · rw [if_neg e] at h
    exact ⟨e, h⟩
theorem hid_le {b : List Addr} {H : Hp} : Ex (hid b H) H := fun _ _ h => (hid_some h).2
theorem hid_ex {b : List Addr} {H H' : Hp} (e : Ex H H') : Ex (hid b H) (hid b H') := fun a o h => by
  obtain ⟨h1, h2⟩ := hid_some h
  rw [hid_ne h1]
  exact e a o h2
theorem Kn.up {b : List Addr} {H H' : Hp} (k : Kn b H) (e : Ex H H') : Kn b H' := fun a ha h => by
  have := k a ha
  cases q : H a with
  | none => exact this q
  | some o =>
    rw [e a o q] at h
    cases h
theorem Kn.new {b : List Addr} {H : Hp} (k : Kn b H) {p : Addr} (hp : H p = none) : p ∉ b := fun e => k p e hp

/-! ### data whose tuples are known to have no dict of their own -/
def TN (K : PySem.W.Frag) (H : Hp) (a : Addr) : Prop := (∃ o u, H a = some (.frz o u) ∧ o.dict = none) ∨ ∃ o, K.lookup a = some o ∧ o.cls = .type "tuple" ∧ o.dict = none
theorem TN.ex {K : PySem.W.Frag} {H H' : Hp} {a : Addr} (e : Ex H H') (h : TN K H a) : TN K H' a := by
  rcases h with ⟨o, u, h1, h2⟩ | h
  · exact .inl ⟨o, u, e _ _ h1, h2⟩
  · exact .inr h
mutual
inductive Dd (K : PySem.W.Frag) (H : Hp) : V → PyData → Prop
  | non : Dd K H .non .none
  | bl (b : Bool) : Dd K H (.bl b) (.bool b)
  | int (i : Int) : Dd K H (.int i) (.int i)
  | str (x : Str) : Dd K H (.str x) (.str x)
  | lst {a : Addr} {xs : List V} {ds : List PyData} : SqL K H a xs → DdAll K H xs ds → Dd K H (.ref a) (.list ds)
  | tup {a : Addr} {xs : List V} {ds : List PyData} : SqT K H a xs → TN K H a → DdAll K H xs ds → Dd K H (.ref a) (.tuple ds)
inductive DdAll (K : PySem.W.Frag) (H : Hp) : List V → List PyData → Prop
  | nil : DdAll K H [] []
  | cons {v : V} {vs : List V} {d : PyData} {ds : List PyData} : Dd K H v d → DdAll K H vs ds → DdAll K H (v :: vs) (d :: ds)
end
mutual
theorem dd_dp {K : PySem.W.Frag} {H : Hp} : ∀ (d : PyData) (v : V), Dd K H v d → Dp K H v d
  | .none, _, h => by cases h; exact .non
  | .bool b, _, h => by cases h; exact .bl b
  | .int i, _, h => by cases h; exact .int i
  | .str x, _, h => by cases h; exact .str x
  | .list ds, _, h => by
    cases h with
    | lst hs ha => exact .lst hs (dds_dp ds _ ha)
  | .tuple ds, _, h => by
    cases h with
    | tup hs _ ha => exact .tup hs (dds_dp ds _ ha)
  | .dict _, _, h => by cases h
theorem dds_dp {K : PySem.W.Frag} {H : Hp} : ∀ (ds : List PyData) (vs : List V), DdAll K H vs ds → DpAll K H vs ds
  | [], _, h => by cases h; exact .nil
  | d :: ds, _, h => by
    cases h with
    | cons h1 h2 => exact .cons (dd_dp d _ h1) (dds_dp ds _ h2)
end
/-! ### data stay where the heap grows -/
mutual
theorem dp_ex {K : PySem.W.Frag} {H H' : Hp} (e : Ex H H') : ∀ (d : PyData) (v : V), Dd K H v d → Dd K H' v d
  | .none, _, h => by cases h; exact .non
  | .bool b, _, h => by cases h; exact .bl b
  | .int i, _, h => by cases h; exact .int i
  | .str x, _, h => by cases h; exact .str x
  | .list ds, _, h => by
    cases h with
    | lst hs ha => exact .lst (ex_l e hs) (dps_ex e ds _ ha)
  | .tuple ds, _, h => by
    cases h with
    | tup hs hn ha => exact .tup (ex_t e hs) (hn.ex e) (dps_ex e ds _ ha)
  | .dict _, _, h => by cases h
theorem dps_ex {K : PySem.W.Frag} {H H' : Hp} (e : Ex H H') : ∀ (ds : List PyData) (vs : List V), DdAll K H vs ds → DdAll K H' vs ds
  | [], _, h => by cases h; exact .nil
  | d :: ds, _, h => by
    cases h with
    | cons h1 h2 => exact .cons (dp_ex e d _ h1) (dps_ex e ds _ h2)
end
abbrev Dq (K : PySem.W.Frag) (b : List Addr) (H : Hp) (v : V) (d : PyData) : Prop := Dd K (hid b H) v d
abbrev DqAll (K : PySem.W.Frag) (b : List Addr) (H : Hp) (vs : List V) (ds : List PyData) : Prop := DdAll K (hid b H) vs ds
section
variable {K : PySem.W.Frag} {b : List Addr} {H H' H1 H2 : Hp} {v : V} {vs : List V} {d e : PyData} {ds : List PyData}
theorem Dq.up (h : Dq K b H v d) (e : Ex H H') : Dq K b H' v d := dp_ex (hid_ex e) d v h
theorem DqAll.up (h : DqAll K b H vs ds) (e : Ex H H') : DqAll K b H' vs ds := dps_ex (hid_ex e) ds vs h
theorem Dq.dd (h : Dq K b H v d) : Dd K H v d := dp_ex hid_le d v h
theorem Dq.dp (h : Dq K b H v d) : Dp K H v d := dd_dp d v h.dd
theorem DqAll.dd (h : DqAll K b H vs ds) : DdAll K H vs ds := dps_ex hid_le ds vs h
theorem dps_len : ∀ {vs : List V} {ds : List PyData} {H : Hp}, DdAll K H vs ds → vs.length = ds.length
  | _, [], _, h => by cases h; rfl
  | _, d :: ds, _, h => by
    cases h with
    | cons h1 h2 => rw [List.length_cons, List.length_cons, dps_len h2]
theorem dps_get : ∀ {vs : List V} {ds : List PyData} {H : Hp} {i : Nat} {d : PyData}, DdAll K H vs ds → ds[i]? = some d → ∃ v, vs[i]? = some v ∧ Dd K H v d
  | _, [], _, i, d, h, e => by simp at e
  | _, x :: ds, _, 0, d, h, e => by
    cases h with
    | cons h1 h2 =>
      have e1 : x = d := Option.some.inj e
      subst e1
      exact ⟨_, rfl, h1⟩
  | _, x :: ds, _, i + 1, d, h, e => by
    cases h with
    | cons h1 h2 =>
      obtain ⟨v, q1, q2⟩ := dps_get h2 (i := i) e
      exact ⟨v, q1, q2⟩
theorem dps_at : ∀ {vs : List V} {ds : List PyData} {H : Hp} {i : Nat} {v : V}, DdAll K H vs ds → vs[i]? = some v → ∃ d, ds[i]? = some d ∧ Dd K H v d
  | _, [], _, i, v, h, e => by cases h; simp at e
  | _, x :: ds, _, 0, v, h, e => by
    cases h with
    | cons h1 h2 =>
      have e1 := Option.some.inj e
      subst e1
      exact ⟨_, rfl, h1⟩
  | _, x :: ds, _, i + 1, v, h, e => by
    cases h with
    | cons h1 h2 =>
      obtain ⟨d, q1, q2⟩ := dps_at h2 (i := i) e
      exact ⟨d, q1, q2⟩
theorem dps_app : ∀ {vs ws : List V} {ds es : List PyData} {H : Hp}, DdAll K H vs ds → DdAll K H ws es → DdAll K H (vs ++ ws) (ds ++ es)
  | _, _, [], _, _, h, h' => by cases h; exact h'
  | _, _, x :: ds, _, _, h, h' => by
    cases h with
    | cons h1 h2 => exact .cons h1 (dps_app h2 h')
theorem dps_drop : ∀ {vs : List V} {ds : List PyData} {H : Hp} (n : Nat), DdAll K H vs ds → DdAll K H (vs.drop n) (ds.drop n)
  | _, _, _, 0, h => h
  | _, [], _, n + 1, h => by cases h; exact .nil
  | _, x :: ds, _, n + 1, h => by
    cases h with
    | cons h1 h2 => exact dps_drop n h2
theorem dps_take : ∀ {vs : List V} {ds : List PyData} {H : Hp} (n : Nat), DdAll K H vs ds → DdAll K H (vs.take n) (ds.take n)
  | _, _, _, 0, h => .nil
  | _, [], _, n + 1, h => by cases h; exact .nil
  | _, x :: ds, _, n + 1, h => by
    cases h with
    | cons h1 h2 => exact .cons h1 (dps_take n h2)
/-- texts are texts -/
theorem dps_strs : ∀ {vs : List V} {xs : List Str} {H : Hp}, DdAll K H vs (xs.map PyData.str) → vs = xs.map V.str
  | _, [], _, h => by cases h; rfl
  | _, x :: xs, _, h => by
    cases h with
    | cons h1 h2 =>
      cases h1
      rw [dps_strs h2]
      rfl
theorem strs_dps : ∀ (xs : List Str) {H : Hp}, DdAll K H (xs.map V.str) (xs.map PyData.str)
  | [], _ => .nil
  | x :: xs, _ => .cons (.str x) (strs_dps xs)
theorem dps_bls : ∀ {vs : List V} {xs : List Bool} {H : Hp}, DdAll K H vs (xs.map PyData.bool) → vs = xs.map V.bl
  | _, [], _, h => by cases h; rfl
  | _, x :: xs, _, h => by
    cases h with
    | cons h1 h2 =>
      cases h1
      rw [dps_bls h2]
      rfl
end
/-- a new object at p keeps what is hidden hidden -/
theorem hid_new {b : List Addr} {H : Hp} {p : Addr} {o : HO} (h : p ∉ b) : hid b (upd H p o) p = some o := by
  rw [hid_ne h, upd_same]
end Wr

set_option Elab.async false
set_option linter.all false
set_option maxRecDepth 100000
set_option maxHeartbeats 4000000
namespace Wr
open PySem PySem.Spec PyProof.Rows L2 Evl

/-! ### what evaluates to which datum -/
section
variable (K : PySem.W.Frag) (b : List Addr)
def ED (te : TE) (σ : L2.St) (H : Hp) (d : PyData) : Prop := ∀ H1, Ex H H1 → ∀ Q : VK, (∀ v H2, Ex H1 H2 → Dq K b H2 v d → Q v H2) → te σ H1 Q
def EA (ta : TA) (σ : L2.St) (H : Hp) (ds : List PyData) : Prop := ∀ H1, Ex H H1 → ∀ Q : List V → Hp → Prop, (∀ vs H2, Ex H1 H2 → DqAll K b H2 vs ds → Q vs H2) → ta σ H1 Q
def SR (ts : TS) (σ : L2.St) (H : Hp) (d : PyData) : Prop := ∀ H1, Ex H H1 → ∀ D : Ends, (∀ v H2, Ex H1 H2 → Dq K b H2 v d → D.rt v H2) → ts D σ H1
end
/-- a pure def: data in, a datum out, all that stood stands -/
def spP (K : PySem.W.Frag) (pre : List PyData → Prop) (f : List PyData → PyData) : Sp := fun vs H Q _ =>
  ∃ b ds, Kn b H ∧ DqAll K b H vs ds ∧ pre ds ∧ ∀ v H', Ex H H' → Dq K b H' v (f ds) → Q v H'
section
variable {K : PySem.W.Frag} {b : List Addr} {σ : L2.St} {H H' : Hp} {ta tb tc te : TE} {t : TA} {tt : TT} {ts t1 t2 : TS} {d e : PyData} {ds : List PyData} {v : V}
theorem ED.mono (x : Ex H H') (h : ED K b te σ H d) : ED K b te σ H' d := fun H1 a Q q => h H1 (x.trans a) Q q
theorem EA.mono (x : Ex H H') (h : EA K b t σ H ds) : EA K b t σ H' ds := fun H1 a Q q => h H1 (x.trans a) Q q
theorem SR.mono (x : Ex H H') (h : SR K b ts σ H d) : SR K b ts σ H' d := fun H1 a Q q => h H1 (x.trans a) Q q
theorem ED.to (h : ED K b te σ H d) (x : d = e) : ED K b te σ H e := x ▸ h
theorem SR.to (h : SR K b ts σ H d) (x : d = e) : SR K b ts σ H e := x ▸ h
theorem ed_var {i : Nat} (h : σ[i]? = some (some v)) (hd : Dq K b H v d) : ED K b (tVar i) σ H d := fun H1 x _ q => ⟨v, h, q v H1 (Ex.refl H1) (hd.up x)⟩
theorem ed_c (hd : Dq K b H v d) : ED K b (tC v) σ H d := fun H1 x _ q => q v H1 (Ex.refl H1) (hd.up x)
theorem ed_int {i : Int} : ED K b (tC (.int i)) σ H (.int i) := ed_c (.int i)
theorem ed_str {x : Str} : ED K b (tC (.str x)) σ H (.str x) := ed_c (.str x)
theorem ed_bl {x : Bool} : ED K b (tC (.bl x)) σ H (.bool x) := ed_c (.bl x)
theorem ed_non : ED K b (tC .non) σ H .none := ed_c .non
/-- two operands, then an operation on data -/
theorem ed_op {r : R2} {z : PyData} (ha : ED K b ta σ H d) (hb : ED K b tb σ H e) (hr : ∀ H1 x y (Q : VK), Ex H H1 → Dq K b H1 x d → Dq K b H1 y e → (∀ v H2, Ex H1 H2 → Dq K b H2 v z → Q v H2) → r x y H1 Q) : ED K b (tOp r ta tb) σ H z :=
  fun H1 x1 Q q => ha H1 x1 _ fun x H2 x2 hx => hb H2 (x1.trans x2) _ fun y H3 x3 hy =>
    hr H3 x y Q ((x1.trans x2).trans x3) (hx.up x3) hy fun v H4 x4 hv => q v H4 ((x2.trans x3).trans x4) hv
theorem ed_eq (ha : ED K b ta σ H d) (hb : ED K b tb σ H e) (sd : SeqAt.shaped d = true) (se : SeqAt.shaped e = true) : ED K b (tOp (rEqD K) ta tb) σ H (.bool (PyData.eqv d e)) :=
  ed_op ha hb fun H1 x y Q _ hx hy q => ⟨d, e, hx.dp, hy.dp, sd, se, q _ H1 (Ex.refl H1) (.bl _)⟩
theorem ed_ne (ha : ED K b ta σ H d) (hb : ED K b tb σ H e) (sd : SeqAt.shaped d = true) (se : SeqAt.shaped e = true) : ED K b (tOp (rNeD K) ta tb) σ H (.bool (!PyData.eqv d e)) :=
  ed_op ha hb fun H1 x y Q _ hx hy q => ⟨d, e, hx.dp, hy.dp, sd, se, q _ H1 (Ex.refl H1) (.bl _)⟩
theorem dq_int {i : Int} (h : Dq K b H v (.int i)) : v = .int i := by cases h; rfl
theorem dq_bl {i : Bool} (h : Dq K b H v (.bool i)) : v = .bl i := by cases h; rfl
theorem dq_str {i : Str} (h : Dq K b H v (.str i)) : v = .str i := by cases h; rfl
theorem ed_I0 {g : Int → Int → V} {i j : Int} {z : PyData} (ha : ED K b ta σ H (.int i)) (hb : ED K b tb σ H (.int j)) (hz : ∀ H', Dq K b H' (g i j) z) : ED K b (tOp (rI0 g) ta tb) σ H z :=
  ed_op ha hb fun H1 x y Q _ hx hy q => ⟨i, j, dq_int hx, dq_int hy, q _ H1 (Ex.refl H1) (hz _)⟩
theorem ed_I {C : Int → Int → Prop} {g : Int → Int → V} {i j : Int} {z : PyData} (ha : ED K b ta σ H (.int i)) (hb : ED K b tb σ H (.int j)) (hc : C i j) (hz : ∀ H', Dq K b H' (g i j) z) : ED K b (tOp (rI C g) ta tb) σ H z :=
  ed_op ha hb fun H1 x y Q _ hx hy q => ⟨i, j, dq_int hx, dq_int hy, hc, q _ H1 (Ex.refl H1) (hz _)⟩
theorem ed_lt {i j : Int} (ha : ED K b ta σ H (.int i)) (hb : ED K b tb σ H (.int j)) : ED K b (tOp (rI0 fun i j => .bl (decide (i < j))) ta tb) σ H (.bool (decide (i < j))) := ed_I0 ha hb fun _ => .bl _
theorem ed_le {i j : Int} (ha : ED K b ta σ H (.int i)) (hb : ED K b tb σ H (.int j)) : ED K b (tOp (rI0 fun i j => .bl (decide (i ≤ j))) ta tb) σ H (.bool (decide (i ≤ j))) := ed_I0 ha hb fun _ => .bl _
theorem ed_gt {i j : Int} (ha : ED K b ta σ H (.int i)) (hb : ED K b tb σ H (.int j)) : ED K b (tOp (rI0 fun i j => .bl (decide (j < i))) ta tb) σ H (.bool (decide (j < i))) := ed_I0 ha hb fun _ => .bl _
theorem ed_ge {i j : Int} (ha : ED K b ta σ H (.int i)) (hb : ED K b tb σ H (.int j)) : ED K b (tOp (rI0 fun i j => .bl (decide (j ≤ i))) ta tb) σ H (.bool (decide (j ≤ i))) := ed_I0 ha hb fun _ => .bl _
theorem ed_add {i j : Int} (ha : ED K b ta σ H (.int i)) (hb : ED K b tb σ H (.int j)) : ED K b (tOp (rI0 fun i j => .int (i + j)) ta tb) σ H (.int (i + j)) := ed_I0 ha hb fun _ => .int _
theorem ed_sub {i j : Int} (ha : ED K b ta σ H (.int i)) (hb : ED K b tb σ H (.int j)) : ED K b (tOp (rI0 fun i j => .int (i - j)) ta tb) σ H (.int (i - j)) := ed_I0 ha hb fun _ => .int _
theorem ed_neg {i : Int} (ha : ED K b ta σ H (.int i)) : ED K b (tUn (rU fun i => .int (-i)) ta) σ H (.int (-i)) := fun H1 x1 Q q =>
  ha H1 x1 _ fun x H2 x2 hx => ⟨i, dq_int hx, q _ H2 x2 (.int _)⟩
/-- a chain of two comparisons of ints -/
theorem ed_chain {g g' : Int → Int → Bool} {i j k : Int} (ha : ED K b ta σ H (.int i)) (hb : ED K b tb σ H (.int j)) (hc : ED K b tc σ H (.int k)) :
    ED K b (tChain (rI0 fun i j => .bl (g i j)) (rI0 fun i j => .bl (g' i j)) ta tb tc) σ H (.bool (g i j && g' j k)) := fun H1 x1 Q q =>
  ha H1 x1 _ fun x H2 x2 hx => hb H2 (x1.trans x2) _ fun y H3 x3 hy => ⟨i, j, dq_int hx, dq_int hy, g i j, rfl, by
    cases hg : g i j with
    | false =>
      rw [if_neg Bool.false_ne_true]
      rw [hg] at q
      exact q _ H3 (x2.trans x3) (.bl _)
    | true =>
      rw [if_pos rfl]
      rw [hg] at q
      exact hc H3 ((x1.trans x2).trans x3) _ fun z H4 x4 hz => ⟨j, k, dq_int hy, dq_int hz, q _ H4 ((x2.trans x3).trans x4) (.bl _)⟩⟩
theorem ed_and {c : Bool} (ha : ED K b ta σ H (.bool c)) (hb : c = true → ED K b tb σ H d) : ED K b (tAndV ta tb) σ H (if c = true then d else .bool false) := fun H1 x1 Q q =>
  ha H1 x1 _ fun x H2 x2 hx => ⟨c, dq_bl hx, by
    cases c with
    | false =>
      rw [if_neg Bool.false_ne_true]
      rw [if_neg Bool.false_ne_true] at q
      exact q _ H2 x2 (.bl _)
    | true =>
      rw [if_pos rfl]
      rw [if_pos rfl] at q
      exact hb rfl H2 (x1.trans x2) _ fun z H4 x4 hz => q _ H4 (x2.trans x4) hz⟩
theorem ed_or {c : Bool} (ha : ED K b ta σ H (.bool c)) (hb : c = false → ED K b tb σ H d) : ED K b (tOrV ta tb) σ H (if c = true then .bool true else d) := fun H1 x1 Q q =>
  ha H1 x1 _ fun x H2 x2 hx => ⟨c, dq_bl hx, by
    cases c with
    | true =>
      rw [if_pos rfl]
      rw [if_pos rfl] at q
      exact q _ H2 x2 (.bl _)
    | false =>
      rw [if_neg Bool.false_ne_true]
      rw [if_neg Bool.false_ne_true] at q
      exact hb rfl H2 (x1.trans x2) _ fun z H4 x4 hz => q _ H4 (x2.trans x4) hz⟩
/-- and, or of truths -/
theorem ed_andB {c k : Bool} (ha : ED K b ta σ H (.bool c)) (hb : c = true → ED K b tb σ H (.bool k)) : ED K b (tAndV ta tb) σ H (.bool (c && k)) := (ed_and ha hb).to (by cases c <;> rfl)
theorem ed_orB {c k : Bool} (ha : ED K b ta σ H (.bool c)) (hb : c = false → ED K b tb σ H (.bool k)) : ED K b (tOrV ta tb) σ H (.bool (c || k)) := (ed_or ha hb).to (by cases c <;> rfl)
theorem ed_not {c : Bool} (ha : ED K b ta σ H (.bool c)) : ED K b (tNotV ta) σ H (.bool (!c)) := fun H1 x1 Q q =>
  ha H1 x1 _ fun x H2 x2 hx => ⟨c, dq_bl hx, q _ H2 x2 (.bl _)⟩
theorem et_t {c : Bool} (h : ED K b te σ H (.bool c)) : EvT (tTest te) σ H c := fun H1 x Q q => h H1 x _ fun v H2 x2 hv => ⟨c, dq_bl hv, q H2 x2⟩
theorem et_b {c : Bool} (h : ED K b te σ H (.bool c)) : EvT (tB te) σ H c := fun H1 x Q q => h H1 x _ fun v H2 x2 hv => ⟨c, dq_bl hv, q H2 x2⟩
theorem ed_if {c : Bool} (hc : EvT tt σ H c) (ha : c = true → ED K b ta σ H d) (hb : c = false → ED K b tb σ H e) : ED K b (tIf tt ta tb) σ H (if c = true then d else e) := fun H1 x1 Q q =>
  hc H1 x1 _ fun H2 x2 => by
    cases c with
    | true =>
      rw [if_pos rfl]
      rw [if_pos rfl] at q
      exact ha rfl H2 (x1.trans x2) _ fun z H4 x4 hz => q _ H4 (x2.trans x4) hz
    | false =>
      rw [if_neg Bool.false_ne_true]
      rw [if_neg Bool.false_ne_true] at q
      exact hb rfl H2 (x1.trans x2) _ fun z H4 x4 hz => q _ H4 (x2.trans x4) hz
/-! ### arguments, calls -/
theorem ea_nil : EA K b tNil σ H [] := fun H1 x Q q => q [] H1 (Ex.refl H1) .nil
theorem ea_cons (ha : ED K b ta σ H d) (hr : EA K b t σ H ds) : EA K b (tCons ta t) σ H (d :: ds) := fun H1 x1 Q q =>
  ha H1 x1 _ fun x H2 x2 hx => hr H2 (x1.trans x2) _ fun xs H3 x3 hxs => q _ H3 (x2.trans x3) (.cons (hx.up x3) hxs)
theorem ed_call {pre : List PyData → Prop} {f : List PyData → PyData} {E : XK} (kn : Kn b H) (ha : EA K b t σ H ds) (hp : pre ds) : ED K b (tCall (spP K pre f) [] E t) σ H (f ds) := fun H1 x1 Q q =>
  ha H1 x1 _ fun vs H2 x2 hvs => ⟨b, ds, kn.up (x1.trans x2), by rw [List.append_nil]; exact hvs, hp, fun v H3 x3 hv => q v H3 (x2.trans x3) hv⟩
/-! ### blocks -/
theorem sr_ret (h : ED K b te σ H d) : SR K b (tRet te) σ H d := fun H1 x D q => h H1 x _ fun v H2 x2 hv => q v H2 x2 hv
theorem sr_if {c : Bool} (hc : EvT tt σ H c) (h1 : c = true → SR K b t1 σ H d) (h2 : c = false → SR K b t2 σ H e) : SR K b (tSeq (tIfS tt t1 tNext) t2) σ H (if c = true then d else e) := fun H1 x1 D q =>
  hc H1 x1 _ fun H2 x2 => by
    cases c with
    | true =>
      rw [if_pos rfl]
      rw [if_pos rfl] at q
      exact h1 rfl H2 (x1.trans x2) _ fun z H4 x4 hz => q _ H4 (x2.trans x4) hz
    | false =>
      rw [if_neg Bool.false_ne_true]
      rw [if_neg Bool.false_ne_true] at q
      exact h2 rfl H2 (x1.trans x2) _ fun z H4 x4 hz => q _ H4 (x2.trans x4) hz
theorem sr_set {i : Nat} (h : ED K b te σ H e) (k : ∀ v H', Ex H H' → Dq K b H' v e → SR K b ts (σ.set i (some v)) H' d) : SR K b (tSeq (tAsg te (gName i)) ts) σ H d := fun H1 x1 D q =>
  h H1 x1 _ fun v H2 x2 hv => k v H2 (x1.trans x2) hv H2 (Ex.refl H2) D fun z H4 x4 hz => q _ H4 (x2.trans x4) hz
/-- the def's own end -/
theorem SR.fin {D : Ends} (h : SR K b ts σ H d) (q : ∀ v H', Ex H H' → Dq K b H' v d → D.rt v H') : ts D σ H := h H (Ex.refl H) D q
end
/-! ### kinds -/
def dTy : PyData → String
  | .none => "NoneType"
  | .bool _ => "bool"
  | .int _ => "int"
  | .str _ => "str"
  | .list _ => "list"
  | .tuple _ => "tuple"
  | .dict _ => "dict"
def tyIs (t T : String) : Bool := t == T || (t == "bool" && T == "int")
def isD (T : String) (d : PyData) : Bool := tyIs (dTy d) T
theorem dp_ty {K : PySem.W.Frag} {H : Hp} {v : V} {d : PyData} (h : Dp K H v d) : TyX K H v (.type (dTy d)) := by
  cases h with
  | non => exact .base .non
  | bl b => exact .base (.bl b)
  | int i => exact .base (.int i)
  | str x => exact .base (.str x)
  | lst hs _ =>
    rcases hs with (h | ⟨o, h⟩) | ⟨o, _, _, h1, h2, _⟩
    · exact .base (.lst h)
    · exact .base (.frz h)
    · exact .kList h1 h2
  | tup hs _ =>
    rcases hs with (h | ⟨o, h⟩) | ⟨o, _, _, h1, h2, _⟩
    · exact .base (.tup h)
    · exact .fTuple h
    · exact .kTuple h1 h2
def KindT (T : String) : Prop := T = "int" ∨ T = "bool" ∨ T = "str" ∨ T = "tuple" ∨ T = "list"
theorem kit_all : (["NoneType", "bool", "int", "str", "list", "tuple"].all fun t => ["int", "bool", "str", "tuple", "list"].all fun T => decide (kitB t T = some (tyIs t T))) = true := by decide +kernel
theorem kit_at {t T : String} (ht : t ∈ ["NoneType", "bool", "int", "str", "list", "tuple"]) (hT : T ∈ ["int", "bool", "str", "tuple", "list"]) : kitB t T = some (tyIs t T) :=
  of_decide_eq_true (List.all_eq_true.mp (List.all_eq_true.mp kit_all t ht) T hT)
theorem dp_kit {K : PySem.W.Frag} {H : Hp} {v : V} {d : PyData} (h : Dp K H v d) {T : String} (hT : KindT T) : PySem.W.kitOne K (.type (dTy d)) (.type T) = some (isD T d) := by
  refine kit_ty (kit_at ?_ ?_)
  · cases h <;> simp [dTy]
  · rcases hT with rfl | rfl | rfl | rfl | rfl <;> simp
section
variable {K : PySem.W.Frag} {b : List Addr} {σ : L2.St} {H H' : Hp} {ta tb : TE} {d e : PyData} {ds : List PyData} {v : V}
theorem ed_isi {T : String} (hT : KindT T) (ha : ED K b ta σ H d) : ED K b (tCB (rIsi K) (tCons ta (tCons (tC (.ty T)) tNil))) σ H (.bool (isD T d)) := fun H1 x1 Q q =>
  ha H1 x1 _ fun x H2 x2 hx => ⟨x, .ty T, .type (dTy d), .type T, isD T d, rfl, .ty T, dp_ty hx.dp, dp_kit hx.dp hT, q _ H2 x2 (.bl _)⟩
/-! ### len -/
def lenD : PyData → Nat
  | .str x => x.length
  | .list xs => xs.length
  | .tuple xs => xs.length
  | _ => 0
def rLen (K : PySem.W.Frag) : List V → Hp → VK → Prop := fun xs H Q => ∃ x n, xs = [x] ∧ LenV K x H n ∧ Q (.int n) H
theorem call_lenD1 {X : Cx} : CallR X (.builtin "len") (rLen X.K) := call_len
theorem ed_len (ha : ED K b ta σ H d) (hk : isD "str" d = true ∨ isD "list" d = true ∨ isD "tuple" d = true) (hs : ∀ x, d = .str x → x.length ≤ sizeLine) : ED K b (tCB (rLen K) (tCons ta tNil)) σ H (.int (lenD d)) := fun H1 x1 Q q =>
  ha H1 x1 _ fun x H2 x2 hx => by
    refine ⟨x, lenD d, rfl, ?_, q _ H2 x2 (.int _)⟩
    have hx' := hx.dd
    cases hx' with
    | str y => exact ⟨hs y rfl, rfl⟩
    | lst h1 h2 => exact Or.inl ⟨_, h1, (dps_len h2).symm⟩
    | tup h1 _ h2 => exact Or.inr ⟨_, h1, (dps_len h2).symm⟩
    | non => rcases hk with h | h | h <;> exact absurd h (by show ¬ tyIs "NoneType" _ = true; decide)
    | bl c => rcases hk with h | h | h <;> exact absurd h (by show ¬ tyIs "bool" _ = true; decide)
    | int c => rcases hk with h | h | h <;> exact absurd h (by show ¬ tyIs "int" _ = true; decide)
/-! ### items -/
theorem dps_atI {H : Hp} {vs : List V} {ds : List PyData} {i : Int} {d : PyData} (h : DdAll K H vs ds) (hi : atI ds i = some d) : ∃ v, atI vs i = some v ∧ Dd K H v d := by
  unfold atI at hi ⊢
  rw [dps_len h]
  cases hj : ixN ds.length i with
  | none => rw [hj] at hi; cases hi
  | some j =>
    rw [hj] at hi
    exact dps_get h (i := j) hi
theorem ed_ixT {i : Int} {z : PyData} (ha : ED K b ta σ H (.tuple ds)) (hb : ED K b tb σ H (.int i)) (hi : atI ds i = some z) : ED K b (tOp (rIxT K) ta tb) σ H z :=
  ed_op ha hb fun H1 x y Q _ hx hy q => by
    cases hx with
    | tup h1 _ h2 =>
      obtain ⟨v, q1, q2⟩ := dps_atI h2 hi
      exact ⟨_, _, i, v, rfl, dq_int hy, ex_t hid_le h1, q1, q v H1 (Ex.refl H1) q2⟩
theorem ed_ixL {i : Int} {z : PyData} (ha : ED K b ta σ H (.list ds)) (hb : ED K b tb σ H (.int i)) (hi : atI ds i = some z) : ED K b (tOp (rIxL K) ta tb) σ H z :=
  ed_op ha hb fun H1 x y Q _ hx hy q => by
    cases hx with
    | lst h1 h2 =>
      obtain ⟨v, q1, q2⟩ := dps_atI h2 hi
      exact ⟨_, _, i, v, rfl, dq_int hy, ex_l hid_le h1, q1, q v H1 (Ex.refl H1) q2⟩
/-! ### in -/
def rInT (K : PySem.W.Frag) (neg : Bool) : R2 := fun x y H Q => ∃ d ds, Dp K H x d ∧ Dp K H y (.tuple ds) ∧ SeqAt.shaped d = true ∧ SeqAt.shaped (.tuple ds) = true ∧ Q (.bl (if neg = true then !ds.any (fun z => PyData.eqv z d) else ds.any fun z => PyData.eqv z d)) H
theorem op_inT {X : Cx} (hu : X.A.units + 65 < cLine) : OpR X (compareOp .In) (rInT X.K false) := by
  intro pins s σ H x y v u Q I rx ry ⟨d, ds, hd, he, sd, se, q⟩
  obtain ⟨as, r1⟩ := Dp.reads I d x v hd rx
  obtain ⟨bs, r2⟩ := Dp.reads I (.tuple ds) y u he ry
  exact SeqAt.in_tuple_reads r2 r1 (SeqAt.canLay_of_shaped se) (SeqAt.canLay_of_shaped sd) (room_in_shaped sd hu) ⟨.bl _, H, I, rfl, q⟩
theorem op_notInT {X : Cx} (hu : X.A.units + 65 < cLine) : OpR X (compareOp .NotIn) (rInT X.K true) := by
  intro pins s σ H x y v u Q I rx ry ⟨d, ds, hd, he, sd, se, q⟩
  obtain ⟨as, r1⟩ := Dp.reads I d x v hd rx
  obtain ⟨bs, r2⟩ := Dp.reads I (.tuple ds) y u he ry
  exact SeqAt.notIn_tuple_reads r2 r1 (SeqAt.canLay_of_shaped se) (SeqAt.canLay_of_shaped sd) (room_in_shaped sd hu) ⟨.bl _, H, I, rfl, q⟩
def inD (d : PyData) (ds : List PyData) : Bool := ds.any fun z => PyData.eqv z d
theorem ed_inT (ha : ED K b ta σ H d) (hb : ED K b tb σ H (.tuple ds)) (sd : SeqAt.shaped d = true) (se : SeqAt.shaped (.tuple ds) = true) : ED K b (tOp (rInT K false) ta tb) σ H (.bool (inD d ds)) :=
  ed_op ha hb fun H1 x y Q _ hx hy q => ⟨d, ds, hx.dp, hy.dp, sd, se, q _ H1 (Ex.refl H1) (.bl _)⟩
theorem ed_inL (ha : ED K b ta σ H d) (hb : ED K b tb σ H (.list ds)) (sd : SeqAt.shaped d = true) (se : SeqAt.shaped (.list ds) = true) : ED K b (tOp (rInD K) ta tb) σ H (.bool (inD d ds)) :=
  ed_op ha hb fun H1 x y Q _ hx hy q => ⟨d, ds, hx.dp, hy.dp, sd, se, q _ H1 (Ex.refl H1) (.bl _)⟩
theorem ed_ninL (ha : ED K b ta σ H d) (hb : ED K b tb σ H (.list ds)) (sd : SeqAt.shaped d = true) (se : SeqAt.shaped (.list ds) = true) : ED K b (tOp (rNotInD K) ta tb) σ H (.bool (!inD d ds)) :=
  ed_op ha hb fun H1 x y Q _ hx hy q => ⟨d, ds, hx.dp, hy.dp, sd, se, q _ H1 (Ex.refl H1) (.bl _)⟩
/-! ### new lists and tuples -/
theorem ed_lst {t : TA} (kn : Kn b H) (ha : EA K b t σ H ds) (hl : ds.length ≤ sizeLine) : ED K b (tLst t) σ H (.list ds) := fun H1 x1 Q q =>
  ha H1 x1 _ fun vs H2 x2 hvs => ⟨by rw [dps_len hvs]; exact hl, fun p hp => q _ _ (x2.trans (Ex.new hp))
    (.lst (.inl (.inl (hid_new ((kn.up (x1.trans x2)).new hp)))) (hvs.up (Ex.new hp)))⟩
/-- a tuple display, its object known -/
def tTupF (t : TA) : TE := fun σ H Q => t σ H fun xs H1 => xs.length ≤ sizeLine ∧ ∀ p o, H1 p = none → o.dict = none → Q (.ref p) (upd H1 p (.frz o (.tup xs)))
theorem pe_tupF {X : Cx} {es : List Expr} {t : TA} {pos : Pos} {x1} (h : PA X es t) : PE X (.Tuple es x1 pos) (tTupF t) := by
  refine ⟨fun pins s σ H Q I hq => ?_⟩
  refine wpAny_Tuple_spliced (thn (h.run pos pins s σ H _ I hq) fun us s1 ⟨xs, H1, I1, r, z, q⟩ => ⟨by rw [← r.length]; exact z, ?_⟩)
  have hf : H1 s1.heap.objs.size = none := I1.hok.fresh (Nat.le_refl _)
  refine ⟨.ref s1.heap.objs.size, upd H1 s1.heap.objs.size (.frz { cls := .type "tuple", data := .seq us.toArray } (.tup xs)),
    I1.laid (t' := s1.toks) (fun b u e => Heap.get?_push_of_some _ e) (Nat.le_refl _) ?_, rfl, q _ _ hf rfl⟩
  exact ⟨Heap.get?_push_size _ rfl, z, us, r, ⟨_, Heap.get?_push_size _ rfl, rfl, _, rfl⟩⟩
theorem ed_tup {t : TA} (kn : Kn b H) (ha : EA K b t σ H ds) (hl : ds.length ≤ sizeLine) : ED K b (tTupF t) σ H (.tuple ds) := fun H1 x1 Q q =>
  ha H1 x1 _ fun vs H2 x2 hvs => ⟨by rw [dps_len hvs]; exact hl, fun p o hp ho => by
    have e := hid_new (o := HO.frz o (.tup vs)) (H := H2) ((kn.up (x1.trans x2)).new hp)
    exact q _ _ (x2.trans (Ex.new hp)) (.tup (.inl (.inr ⟨_, e⟩)) (.inl ⟨_, _, e, ho⟩) (hvs.up (Ex.new hp)))⟩
/-! ### all([..]) -/
theorem ed_all {bs : List Bool} (ha : ED K b ta σ H (.list (bs.map PyData.bool))) : ED K b (tCB (rAll K) (tCons ta tNil)) σ H (.bool (bs.all id)) := fun H1 x1 Q q =>
  ha H1 x1 _ fun x H2 x2 hx => by
    have hx' := hx.dd
    cases hx' with
    | lst h1 h2 =>
      rw [dps_bls h2] at h1
      exact ⟨_, bs, rfl, h1, q _ H2 x2 (.bl _)⟩
end
end Wr

set_option Elab.async false
set_option linter.all false
set_option maxRecDepth 100000
set_option maxHeartbeats 4000000
namespace Wr
open PySem PySem.Spec PyProof.Rows L2 Evl

/-! ### enumerate(tuple) -/
theorem enum_new1 {v : Value} {o : Obj} {H : Heap → Prop} (B : Begins v o H) :
    Meets (Builtin.«enumerate.__new__» ⟨[.type "enumerate", v], []⟩) (fun _ R s => H s.heap ∧
      R (.ok (.ret (.ref (s.heap.push o).objs.size)))
        { s with heap := (s.heap.push o).push { cls := .type "enumerate", data := .fields #[.none, .bool false, .ref s.heap.objs.size, rawInt 0, .none, .none] } }) :=
  .of_wp fun prog w A R s h => by
    obtain ⟨hp, g, d, tk, os⟩ := s
    obtain ⟨h1, h⟩ := h
    have hsub := sub_enumerate
    have q1 : ∀ {A' : Around} {E : Value → Shared → Prop} {Q : Value → Shared → Prop}, Q (.ref hp.objs.size) ⟨hp.push o, g, d, tk, os⟩ →
        wpAny (model prog w) A' (pyIter v) Q E ⟨hp, g, d, tk, os⟩ := fun q => B.iter prog w _ _ ⟨hp, g, d, tk, os⟩ _ h1 q
    wp_walk using q1
    refine wpAny_stack_any fun st => wpAny_pure ?_
    split
    · rename_i c _ _ _ _ _
      cases (c == Value.type "enumerate") <;> (wp_walk using q1; exact ⟨_, rfl, h⟩)
    · wp_walk using q1
      exact ⟨_, rfl, h⟩
section
variable {prog : Program} {w : World} {A : Around} {E : Value → Shared → Prop} {s : Shared}
theorem enum_call1 {v : Value} {o : Obj} {H : Heap → Prop} {Q : Value → Shared → Prop} (B : Begins v o H) (h1 : H s.heap)
    (h : ∀ h', IsEnum h' (s.heap.objs.size + 1) s.heap.objs.size 0 .none → h'.get? s.heap.objs.size = some o →
      (∀ b o, s.heap.get? b = some o → h'.get? b = some o) → Q (.ref (s.heap.objs.size + 1)) { s with heap := h' }) :
    wpAny (model prog w) A (call (.type "enumerate") [v]) Q E s := by
  refine callType_new F.called_enumerate (by decide) (F.typeCall_enumerate_1 _) (F.newCall_enumerate_1 _) (fun obj => F.args_object_init_2 obj _)
    F.entry_enumerate_new (enum_new1 B) ⟨h1, ?_⟩
  have hz : (s.heap.push o).objs.size = s.heap.objs.size + 1 := Heap.size_push ..
  show _ ∧ _
  rw [hz]
  have he : IsEnum ((s.heap.push o).push { cls := .type "enumerate", data := .fields #[.none, .bool false, .ref s.heap.objs.size, rawInt 0, .none, .none] })
      (s.heap.objs.size + 1) s.heap.objs.size 0 .none := by
    have g := Heap.get?_push_size (s.heap.push o) (o := { cls := .type "enumerate", data := .fields #[.none, .bool false, .ref s.heap.objs.size, rawInt 0, .none, .none] }) rfl
    rw [hz] at g
    exact g
  exact ⟨⟨_, he, rfl⟩, h _ he (Heap.get?_push_of_some _ (Heap.get?_push_size _ B.free)) fun b o x => Heap.get?_push_of_some _ (Heap.get?_push_of_some _ x)⟩
end
/-- the tuple at a, each item with its number in a new pair -/
def Itet (K : PySem.W.Frag) (a : Addr) : It where
  go := fun i H => ∃ (xs : List V) (x : V), SqT K H a xs ∧ xs[i]? = some x
  yld := fun i H v H' => ∃ T x, v = .ref T ∧ H T = none ∧ H' = upd H T (.tup [.int (i : Nat), x]) ∧ ∀ xs, SqT K H a xs → xs[i]? = some x
  stop := fun i H => ∃ xs : List V, SqT K H a xs ∧ xs.length = i
theorem turn_enumT {P : Program} {w : World} {K : PySem.W.Frag} {elts : List Expr} {kk : Nat} {tpos : Pos} (a e it : Addr) (hne : e ≠ it) (hat : a ≠ it) (hea : e ≠ a) :
    Turn P w K (.Tuple elts kk tpos) (Itet K a) [e, it] e (fun i h => (∃ old, IsEnum h e it ((i : Nat) : Int) old) ∧ h.IsTupleIter it a i) where
  mem := by simp
  obj := fun i h st b hb => by
    obtain ⟨⟨old, he⟩, ⟨o, ho, hc, hd⟩⟩ := st
    rcases (show b = e ∨ b = it by simpa using hb) with z | z
    · subst z
      exact ⟨_, he, fun v q => nomatch q⟩
    · subst z
      exact ⟨o, ho, fun v q => by rw [hd] at q; cases q⟩
  keep := fun i h h' st k => by
    obtain ⟨⟨old, he⟩, hi⟩ := st
    exact ⟨⟨old, k e (by simp) _ he⟩, hi.at fun o q => k it (by simp) o q⟩
  item := by
    intro X hP hw hK hc i pins s σ H E I hf st hg
    subst hP hw hK
    obtain ⟨⟨old, he⟩, hit⟩ := st
    obtain ⟨xs, x, hq, hx⟩ := hg
    obtain ⟨its, rv, p, hz⟩ := I.tuple hq
    obtain ⟨u, hu, ru⟩ := rv.get hx
    have hel : e < s.heap.objs.size := Heap.lt_size he
    have hil : it < s.heap.objs.size := by
      obtain ⟨_, q, _⟩ := hit
      exact Heap.lt_size q
    have hd : (X.A.in1).handled = none := I.ok.hd hc
    have hlt : i < its.toArray.size := by
      have := (List.getElem?_eq_some_iff.mp hu).1
      simpa using this
    refine wpAny_pyNext_enum_itemD (Draws.tuple hd it a hat its.toArray) he (i := i) ⟨hit, p⟩ hlt hne (by simp [hne, hea]) fun y h' tk hy ho st' hT hsz hk => ?_
    have ey : y = u := by
      have : its.toArray[i]? = some u := by simpa using hu
      rw [this] at hy
      exact (Option.some.inj hy).symm
    subst ey
    refine ⟨_, rfl, wpAny_letOwnedTupleGo_enum (s := { s with heap := h', toks := tk + 1 }) ho fun h'' he' sb => ?_⟩
    have hT2 : h''.get? s.heap.objs.size = some { cls := .type "tuple", data := .seq #[.int i tk, y] } := (sb.2 _ (Nat.ne_of_gt hel)).trans hT
    have new : ObjOk X.prog X.w (upd H s.heap.objs.size (.tup [.int (i : Nat), x])) h'' s.heap.objs.size (.tup [.int (i : Nat), x]) :=
      ⟨by show 2 ≤ sizeLine; decide, [.int i tk, y], .cons ⟨_, rfl⟩ (.cons ru .nil), ⟨_, hT2, rfl, _, rfl⟩⟩
    have I1 : Inv X pins σ (upd H s.heap.objs.size (.tup [.int (i : Nat), x])) { s with heap := h'', toks := tk + 1 } := by
      refine I.turnedNew (ch := [e, it]) (fun b ob hb q => ?_) hf (Nat.le_refl _) new
      have h1 : b ≠ e := fun z => hb (by simp [z])
      have h2 : b ≠ it := fun z => hb (by simp [z])
      exact (sb.2 b h1).trans (hk b ob h1 h2 q)
    refine ⟨.ref s.heap.objs.size, _, I1, rfl, ⟨_, x, rfl, I.hok.fresh (Nat.le_refl _), rfl, fun ys hy' => ?_⟩, ⟨⟨y, ?_⟩, st'.1.at fun o q => (sb.2 it (Ne.symm hne)).trans q⟩, fun b hb => ?_⟩
    · rw [I.tuple_inj hy' hq]
      exact hx
    · have e1 : ((i + 1 : Nat) : Int) = (i : Int) + 1 := by omega
      rw [e1]
      exact he'
    · have hb' : b < s.heap.objs.size := by
        rcases (show b = e ∨ b = it by simpa using hb) with z | z
        · rw [z]; exact hel
        · rw [z]; exact hil
      rw [upd_ne (Nat.ne_of_lt hb')]
      exact (hf b hb).1
  done := by
    intro X hP hw hK hc i pins s σ H E I hf st hg
    subst hP hw hK
    obtain ⟨⟨old, he⟩, hit⟩ := st
    obtain ⟨xs, hq, hx⟩ := hg
    obtain ⟨its, rv, p, hz⟩ := I.tuple hq
    obtain ⟨f0, f1, f2, f3, f4, f5⟩ := hf it (by simp)
    have hl := rv.length
    have hd : (X.A.in1).handled = none := I.ok.hd hc
    have ei : i = its.toArray.size := by
      rw [List.size_toArray]
      omega
    subst ei
    exact wpAny_pyNext_enum_endD (Draws.tuple hd it a hat its.toArray) he ⟨hit, p⟩ fun h' eb => ⟨rfl, I.turned (t' := s.toks) (fun b o hb q => eb b o hb q) f0 f1 f3 f4 f5⟩
  self := fun A i s Q E st h => by
    obtain ⟨⟨_, he⟩, _⟩ := st
    exact wpAny_pyIter_enum he h
def iEnumT (K : PySem.W.Frag) (ta : TA) : TI := fun σ H R => ta σ H fun vs H1 => ∃ a xs, vs = [.ref a] ∧ SqT K H1 a xs ∧ R (Itet K a) H1
theorem pi_enumT {X : Cx} {e : Expr} {ta : TA} {p pos tpos : Pos} {elts : List Expr} {kk : Nat} (hg : Gl X "enumerate") (hm : X.mg "enumerate" = none) (ha : PA X [e] ta)
    (hs : starEach [e] X.env = [(false, eval e X.env)] := by rfl) : PI X (.Tuple elts kk tpos) (.Call (.Name "enumerate" p) [e] [] pos) (iEnumT X.K ta) := by
  refine ⟨fun pins s σ H R I h => ?_⟩
  refine Call_ (ld_blt I hg hm boot_enumerate (PyProof.Rows.callWith_type1 (thn (ha.run pos pins s σ H _ I h) fun us s1 ⟨vs, H1, I1, r1, q1⟩ => ?_) hs rfl))
  obtain ⟨a, xs, ex, hq, q⟩ := q1
  subst ex
  cases r1 with
  | cons r rr =>
    cases rr
    cases r
    obtain ⟨its, rv, p', hz⟩ := I1.tuple hq
    have hal : a < s1.heap.objs.size := by
      obtain ⟨_, q', _⟩ := p'
      exact Heap.lt_size q'
    refine enum_call1 (begins_tuple a its.toArray) p' fun h' he hit hk => wpAny_pyIter_enum he ?_
    have I2 : Inv X pins σ H1 { s1 with heap := h' } := I1.kept (t' := s1.toks) hk
    refine ⟨s1.heap.objs.size + 1, [s1.heap.objs.size + 1, s1.heap.objs.size], _, _, H1, rfl, I2,
      turn_enumT a (s1.heap.objs.size + 1) s1.heap.objs.size (Nat.succ_ne_self _) (Nat.ne_of_lt hal) (Nat.ne_of_gt (Nat.lt_succ_of_lt hal)), ⟨⟨.none, he⟩, ⟨_, hit, rfl, rfl⟩⟩, fun b hb => ?_, q⟩
    have hle : s1.heap.objs.size ≤ b := by
      rcases (show b = s1.heap.objs.size + 1 ∨ b = s1.heap.objs.size by simpa using hb) with z | z
      · rw [z]; exact Nat.le_add_right _ _
      · rw [z]; exact Nat.le_refl _
    exact I1.fpOk hle (I1.hok.fresh hle)
theorem walk_enumT {K : PySem.W.Frag} {a : Addr} {xs : List V} : Walk (Itet K a) xs.length (fun H => SqT K H a xs) (YPair (fun i => some (.int (i : Nat))) (fun i => xs[i]?)) where
  goes := fun i H hi h => ⟨xs, xs[i], h, List.getElem?_eq_getElem hi⟩
  stops := fun H h => ⟨xs, h, rfl⟩
  yields := fun i H x H' hi h ⟨T, y, e1, e2, e3, e4⟩ => ⟨T, .int (i : Nat), y, e1, e2, e3, rfl, e4 xs h⟩
end Wr

set_option Elab.async false
set_option linter.all false
set_option maxRecDepth 100000
set_option maxHeartbeats 4000000
namespace Wr
open PySem PySem.Spec PyProof.Rows L2 Evl

/-! ### flat data -/
def flatP : PyData → Bool
  | .none => true
  | .bool _ => true
  | .int _ => true
  | .str _ => true
  | _ => false
def vOf : PyData → V
  | .bool b => .bl b
  | .int i => .int i
  | .str x => .str x
  | _ => .non
theorem dp_flat {K : PySem.W.Frag} {H : Hp} {v : V} {d : PyData} (h : Dd K H v d) (f : flatP d = true) : v = vOf d := by
  cases h with
  | non => rfl
  | bl b => rfl
  | int i => rfl
  | str x => rfl
  | lst _ _ => cases f
  | tup _ _ _ => cases f
theorem flat_dp {K : PySem.W.Frag} {H : Hp} {d : PyData} (f : flatP d = true) : Dd K H (vOf d) d := by
  cases d with
  | none => exact .non
  | bool b => exact .bl b
  | int i => exact .int i
  | str x => exact .str x
  | list _ => cases f
  | tuple _ => cases f
  | dict _ => cases f
theorem flats_dp {K : PySem.W.Frag} {H : Hp} : ∀ {ds : List PyData}, (∀ d ∈ ds, flatP d = true) → DdAll K H (ds.map vOf) ds
  | [], _ => .nil
  | d :: ds, f => .cons (flat_dp (f d List.mem_cons_self)) (flats_dp fun e he => f e (List.mem_cons_of_mem _ he))
theorem wipe_set1 {σ : L2.St} {n : Nat} {x : Option V} : wipe ((wipe σ [n]).set n x) [n] = wipe σ [n] := by
  show ((σ.set n none).set n x).set n none = σ.set n none
  rw [List.set_set, List.set_set]
section
variable {K : PySem.W.Frag} {b : List Addr} {σ : L2.St} {H H' : Hp} {ta te : TE} {tt : TT} {d : PyData} {ds : List PyData}
/-- a comprehension with one name, a test and flat items, over anything that is walked -/
theorem lc_flat {J : It} {n : Nat} {G : Hp → Prop} {xs : List V} {H2 : Hp} {k : Nat} {g : Nat → PyData} {p : Nat → Bool} (W : Walk J n G (YAt xs)) (hn : n = xs.length) (hl : n < sizeLine) (kn : Kn b H2) (hG : ∀ H3, Ex H2 H3 → G H3)
    (hp : ∀ i x H3, xs[i]? = some x → Ex H2 H3 → EvT tt ((wipe σ [k]).set k (some x)) H3 (p i))
    (he : ∀ i x H3, xs[i]? = some x → p i = true → Ex H2 H3 → ED K b te ((wipe σ [k]).set k (some x)) H3 (g i)) (hf : ∀ i, i < n → p i = true → flatP (g i) = true)
    {Q : VK} (q : ∀ v H3, Ex H2 H3 → Dq K b H3 v (.list (((List.range n).filter p).map g)) → Q v H3) (D : Addr) (hD : H2 D = none) :
    ∃ W : Nat → Nat → Hp → Prop, (∃ m, W 0 m (upd H2 D (.lst []))) ∧ ∀ i m H, W i m H →
      (J.stop i H ∧ Q (.ref D) H) ∨ (J.go i H ∧ ∃ Nx : Hp → Prop, (∀ H', Nx H' → ∃ m', m' < m ∧ W (i + 1) m' H') ∧ ∀ x H', J.yld i H x H' → gName k x (wipe σ [k]) H' fun σ2 H2 => wipe σ2 [k] = wipe σ [k] ∧ tt σ2 H2 fun b H3 =>
        if b = true then te σ2 H3 fun y H4 => ∃ acc, H4 D = some (.lst acc) ∧ acc.length < sizeLine ∧ Nx (upd H4 D (.lst (acc ++ [y]))) else Nx H3) := by
  refine lc_it W (fun i H3 => Ex H2 H3 ∧ H3 D = some (.lst ((((List.range i).filter p).map g).map vOf))) ⟨Ex.new hD, upd_same⟩ (fun i H3 _ h => hG H3 h.1) ?_ ?_
  · intro i x H3 H3' hi ⟨x3, e3⟩ ⟨e1, hx⟩
    subst e1
    refine ⟨wipe_set1, hp i x H3' hx x3 H3' (Ex.refl _) _ fun H4 x4 => ?_⟩
    have er : ∀ c, p i = c → (List.range (i + 1)).filter p = (List.range i).filter p ++ (if c = true then [i] else []) := fun c hc => by
      rw [List.range_succ, List.filter_append]
      cases c with
      | true => simp [hc]
      | false => simp [hc]
    cases hpi : p i with
    | false =>
      rw [if_neg Bool.false_ne_true]
      refine ⟨x3.trans x4, ?_⟩
      rw [er false hpi, if_neg Bool.false_ne_true, List.append_nil]
      exact x4 _ _ e3
    | true =>
      rw [if_pos rfl]
      refine he i x H4 hx hpi (x3.trans x4) H4 (Ex.refl _) _ fun y H5 x5 hy => ?_
      have ey := dp_flat hy (hf i hi hpi)
      refine ⟨_, x5 _ _ (x4 _ _ e3), ?_, Ex.mut (x3.trans (x4.trans x5)) hD, ?_⟩
      · rw [List.length_map, List.length_map]
        have := List.length_filter_le p (List.range i)
        rw [List.length_range] at this
        omega
      · rw [upd_same, er true hpi, if_pos rfl, List.map_append, List.map_append, ey]
        rfl
  · intro H3 ⟨x3, e3⟩
    refine q _ H3 x3 (.lst (.inl (.inl ?_)) (flats_dp fun d hd => ?_))
    · rw [hid_ne (kn.new hD)]
      exact e3
    · obtain ⟨i, hi, rfl⟩ := List.mem_map.mp hd
      obtain ⟨h1, h2⟩ := List.mem_filter.mp hi
      exact hf i (List.mem_range.mp h1) h2
theorem range_map {α β : Type} (xs : List α) (f : α → β) (g : Nat → β) (h : ∀ i x, xs[i]? = some x → g i = f x) : (List.range xs.length).map g = xs.map f := by
  apply List.ext_getElem?
  intro i
  rw [List.getElem?_map, List.getElem?_map]
  by_cases hi : i < xs.length
  · rw [List.getElem?_eq_getElem (by rw [List.length_range]; exact hi), List.getElem?_eq_getElem hi, List.getElem_range]
    simp [h i xs[i] (List.getElem?_eq_getElem hi)]
  · rw [List.getElem?_eq_none (by rw [List.length_range]; omega), List.getElem?_eq_none (by omega)]
    rfl
theorem range_filter_map {α β : Type} (f : α → β) (p : α → Bool) : ∀ (xs : List α) (g : Nat → β) (q : Nat → Bool), (∀ i x, xs[i]? = some x → q i = p x ∧ (p x = true → g i = f x)) → ((List.range xs.length).filter q).map g = (xs.filter p).map f
  | [], _, _, _ => rfl
  | x :: xs, g, q, h => by
    rw [List.length_cons, List.range_succ_eq_map, List.filter_cons]
    obtain ⟨h1, h2⟩ := h 0 x rfl
    have ih := range_filter_map f p xs (fun i => g (i + 1)) (fun i => q (i + 1)) fun i y hy => h (i + 1) y hy
    have e : ((List.range xs.length).map Nat.succ).filter q = ((List.range xs.length).filter fun i => q (i + 1)).map Nat.succ := by
      rw [List.filter_map]
      rfl
    have e2 : (((List.range xs.length).map Nat.succ).filter q).map g = (xs.filter p).map f := by
      rw [e, List.map_map, ← ih]
      rfl
    rw [h1, List.filter_cons]
    cases hp : p x with
    | true =>
      rw [if_pos rfl, if_pos rfl, List.map_cons, List.map_cons, e2, h2 hp]
    | false =>
      rw [if_neg Bool.false_ne_true, if_neg Bool.false_ne_true, e2]
/-- over a tuple, a list: no test -/
theorem et_yes : EvT tYes σ H true := fun H1 x Q q => q H1 (Ex.refl H1)
/-- over a tuple or a list: with a test; items flat -/
theorem ed_lcT {k : Nat} {f : PyData → PyData} {p : PyData → Bool} (kn : Kn b H) (ha : ED K b ta σ H (.tuple ds)) (hl : ds.length < sizeLine)
    (hp : ∀ d v H3, d ∈ ds → Ex H H3 → Dq K b H3 v d → EvT tt ((wipe σ [k]).set k (some v)) H3 (p d))
    (he : ∀ d v H3, d ∈ ds → p d = true → Ex H H3 → Dq K b H3 v d → ED K b te ((wipe σ [k]).set k (some v)) H3 (f d)) (hf : ∀ d ∈ ds, p d = true → flatP (f d) = true) :
    ED K b (tLc (iTup K ta) (gName k) tt te [k]) σ H (.list ((ds.filter p).map f)) := fun H1 x1 Q q =>
  ha H1 x1 _ fun x H2 x2 hx => by
    cases hx with
    | @tup a xs _ h1 _ h2 =>
      have hlen := dps_len h2
      have at_ : ∀ i x, xs[i]? = some x → ∃ d, ds[i]? = some d ∧ d ∈ ds ∧ Dq K b H2 x d := fun i x hx => by
        obtain ⟨d, g1, g2⟩ := dps_at h2 hx
        exact ⟨d, g1, List.mem_of_getElem? g1, g2⟩
      refine ⟨a, rfl, ⟨xs, ex_t hid_le h1⟩, lc_flat (K := K) (g := fun i => f (ds.getD i .none)) (p := fun i => p (ds.getD i .none)) walk_tup rfl (by rw [hlen]; exact hl) (kn.up (x1.trans x2)) (fun H3 x3 => ex_t x3 (ex_t hid_le h1)) ?_ ?_ ?_ ?_⟩
      · intro i x H3 hx x3
        obtain ⟨d, g1, g2, g3⟩ := at_ i x hx
        simp only [List.getD_eq_getElem?_getD, g1, Option.getD_some]
        exact hp d x H3 g2 ((x1.trans x2).trans x3) (g3.up x3)
      · intro i x H3 hx hpi x3
        obtain ⟨d, g1, g2, g3⟩ := at_ i x hx
        simp only [List.getD_eq_getElem?_getD, g1, Option.getD_some] at hpi ⊢
        exact he d x H3 g2 hpi ((x1.trans x2).trans x3) (g3.up x3)
      · intro i hi hpi
        have hi' : i < ds.length := by omega
        have g1 : ds[i]? = some ds[i] := List.getElem?_eq_getElem hi'
        simp only [List.getD_eq_getElem?_getD, g1, Option.getD_some] at hpi ⊢
        exact hf _ (List.getElem_mem hi') hpi
      · intro v H3 x3 hv
        refine q v H3 (x2.trans x3) ?_
        rw [hlen] at hv
        rw [range_filter_map f p ds _ _ fun i d hd => ⟨by simp only [List.getD_eq_getElem?_getD, hd, Option.getD_some], fun _ => by simp only [List.getD_eq_getElem?_getD, hd, Option.getD_some]⟩] at hv
        exact hv
theorem ed_lcL {k : Nat} {f : PyData → PyData} {p : PyData → Bool} (kn : Kn b H) (ha : ED K b ta σ H (.list ds)) (hl : ds.length < sizeLine)
    (hp : ∀ d v H3, d ∈ ds → Ex H H3 → Dq K b H3 v d → EvT tt ((wipe σ [k]).set k (some v)) H3 (p d))
    (he : ∀ d v H3, d ∈ ds → p d = true → Ex H H3 → Dq K b H3 v d → ED K b te ((wipe σ [k]).set k (some v)) H3 (f d)) (hf : ∀ d ∈ ds, p d = true → flatP (f d) = true) :
    ED K b (tLc (iList K ta) (gName k) tt te [k]) σ H (.list ((ds.filter p).map f)) := fun H1 x1 Q q =>
  ha H1 x1 _ fun x H2 x2 hx => by
    cases hx with
    | @lst a xs _ h1 h2 =>
      have hlen := dps_len h2
      have at_ : ∀ i x, xs[i]? = some x → ∃ d, ds[i]? = some d ∧ d ∈ ds ∧ Dq K b H2 x d := fun i x hx => by
        obtain ⟨d, g1, g2⟩ := dps_at h2 hx
        exact ⟨d, g1, List.mem_of_getElem? g1, g2⟩
      refine ⟨a, rfl, ⟨xs, ex_l hid_le h1⟩, lc_flat (K := K) (g := fun i => f (ds.getD i .none)) (p := fun i => p (ds.getD i .none)) walk_list rfl (by rw [hlen]; exact hl) (kn.up (x1.trans x2)) (fun H3 x3 => ex_l x3 (ex_l hid_le h1)) ?_ ?_ ?_ ?_⟩
      · intro i x H3 hx x3
        obtain ⟨d, g1, g2, g3⟩ := at_ i x hx
        simp only [List.getD_eq_getElem?_getD, g1, Option.getD_some]
        exact hp d x H3 g2 ((x1.trans x2).trans x3) (g3.up x3)
      · intro i x H3 hx hpi x3
        obtain ⟨d, g1, g2, g3⟩ := at_ i x hx
        simp only [List.getD_eq_getElem?_getD, g1, Option.getD_some] at hpi ⊢
        exact he d x H3 g2 hpi ((x1.trans x2).trans x3) (g3.up x3)
      · intro i hi hpi
        have hi' : i < ds.length := by omega
        have g1 : ds[i]? = some ds[i] := List.getElem?_eq_getElem hi'
        simp only [List.getD_eq_getElem?_getD, g1, Option.getD_some] at hpi ⊢
        exact hf _ (List.getElem_mem hi') hpi
      · intro v H3 x3 hv
        refine q v H3 (x2.trans x3) ?_
        rw [hlen] at hv
        rw [range_filter_map f p ds _ _ fun i d hd => ⟨by simp only [List.getD_eq_getElem?_getD, hd, Option.getD_some], fun _ => by simp only [List.getD_eq_getElem?_getD, hd, Option.getD_some]⟩] at hv
        exact hv
theorem filter_yes {α β : Type} (xs : List α) (f : α → β) : (xs.filter fun _ => true).map f = xs.map f := by
  rw [List.filter_eq_self.mpr fun _ _ => rfl]
theorem ed_lcT1 {k : Nat} {f : PyData → PyData} (kn : Kn b H) (ha : ED K b ta σ H (.tuple ds)) (hl : ds.length < sizeLine)
    (he : ∀ d v H3, d ∈ ds → Ex H H3 → Dq K b H3 v d → ED K b te ((wipe σ [k]).set k (some v)) H3 (f d)) (hf : ∀ d ∈ ds, flatP (f d) = true) :
    ED K b (tLc (iTup K ta) (gName k) tYes te [k]) σ H (.list (ds.map f)) :=
  (ed_lcT (p := fun _ => true) kn ha hl (fun _ _ _ _ _ _ => et_yes) (fun d v H3 h _ x hd => he d v H3 h x hd) fun d h _ => hf d h).to (by rw [filter_yes])
theorem ed_lcL1 {k : Nat} {f : PyData → PyData} (kn : Kn b H) (ha : ED K b ta σ H (.list ds)) (hl : ds.length < sizeLine)
    (he : ∀ d v H3, d ∈ ds → Ex H H3 → Dq K b H3 v d → ED K b te ((wipe σ [k]).set k (some v)) H3 (f d)) (hf : ∀ d ∈ ds, flatP (f d) = true) :
    ED K b (tLc (iList K ta) (gName k) tYes te [k]) σ H (.list (ds.map f)) :=
  (ed_lcL (p := fun _ => true) kn ha hl (fun _ _ _ _ _ _ => et_yes) (fun d v H3 h _ x hd => he d v H3 h x hd) fun d h _ => hf d h).to (by rw [filter_yes])
/-- over the signs of a text, with a test -/
theorem ed_lcS {k : Nat} {z : Str} {p : Nat → Bool} (hk : k < σ.length) (kn : Kn b H) (ha : ED K b ta σ H (.str z)) (hl : z.length < sizeLine)
    (hp : ∀ c H3, c ∈ z.cps.toList → Ex H H3 → EvT tt ((wipe σ [k]).set k (some (.str ⟨#[c]⟩))) H3 (p c)) :
    ED K b (tLc (iStr ta) (gName k) tt (tVar k) [k]) σ H (.list ((z.cps.toList.filter p).map fun c => .str ⟨#[c]⟩)) := fun H1 x1 Q q =>
  ha H1 x1 _ fun x H2 x2 hx => by
    cases hx
    have hsz : z.cps.size = (z.cps.toList.map fun c => V.str ⟨#[c]⟩).length := by rw [List.length_map, Array.length_toList]
    have wk : Walk (Its z) z.cps.size (fun _ => True) (YAt (z.cps.toList.map fun c => V.str ⟨#[c]⟩)) := walk_str.mono (fun _ _ => trivial) fun i H x H' _ _ ⟨e, c, h1, h2⟩ => ⟨e, by
      rw [List.getElem?_map, Array.getElem?_toList, h1, h2]
      rfl⟩
    have at_ : ∀ i x, (z.cps.toList.map fun c => V.str ⟨#[c]⟩)[i]? = some x → ∃ c, z.cps.toList[i]? = some c ∧ x = V.str ⟨#[c]⟩ := fun i x hx => by
      rw [List.getElem?_map] at hx
      cases e : z.cps.toList[i]? with
      | none => rw [e] at hx; cases hx
      | some c =>
        rw [e] at hx
        exact ⟨c, e, (Option.some.inj hx).symm⟩
    refine ⟨z, rfl, lc_flat (K := K) (g := fun i => .str ⟨#[z.cps.toList.getD i 0]⟩) (p := fun i => p (z.cps.toList.getD i 0)) wk hsz (show z.cps.size < _ from hl) (kn.up (x1.trans x2)) (fun _ _ => trivial) ?_ ?_ ?_ ?_⟩
    · intro i x H3 hx x3
      obtain ⟨c, g1, rfl⟩ := at_ i x hx
      simp only [List.getD_eq_getElem?_getD, g1, Option.getD_some]
      exact hp c H3 (List.mem_of_getElem? g1) ((x1.trans x2).trans x3)
    · intro i x H3 hx hpi x3
      obtain ⟨c, g1, rfl⟩ := at_ i x hx
      simp only [List.getD_eq_getElem?_getD, g1, Option.getD_some]
      refine ed_var ?_ (.str _)
      show ((σ.set k none).set k _)[k]? = _
      rw [List.getElem?_set_self (by rw [List.length_set]; exact hk)]
    · intro i hi _
      rfl
    · intro v H3 x3 hv
      refine q v H3 (x2.trans x3) ?_
      have e0 : z.cps.size = z.cps.toList.length := by rw [Array.length_toList]
      rw [e0] at hv
      rw [range_filter_map (fun c => PyData.str ⟨#[c]⟩) p z.cps.toList _ _ fun i d hd => ⟨by simp only [List.getD_eq_getElem?_getD, hd, Option.getD_some], fun _ => by simp only [List.getD_eq_getElem?_getD, hd, Option.getD_some]⟩] at hv
      exact hv
end
end Wr

set_option Elab.async false
set_option linter.all false
set_option maxRecDepth 100000
set_option maxHeartbeats 8000000
namespace Wr
open PySem PySem.Spec PyProof.Rows L2 Evl

/-! ### set(texts) -/
/-- each once, as first met -/
def uqStep (acc : List Str) (x : Str) : List Str := if x ∈ acc then acc else acc ++ [x]
def uq (xs : List Str) : List Str := xs.foldl uqStep []
theorem uq_snoc (xs : List Str) (x : Str) : uq (xs ++ [x]) = uqStep (uq xs) x := by
  unfold uq
  rw [List.foldl_append]
  rfl
theorem uq_le : ∀ (xs acc : List Str), (xs.foldl uqStep acc).length ≤ acc.length + xs.length
  | [], acc => Nat.le_refl _
  | x :: xs, acc => by
    have ih := uq_le xs (uqStep acc x)
    have h1 : (uqStep acc x).length ≤ acc.length + 1 := by
      unfold uqStep
      split
      · omega
      · rw [List.length_append]; exact Nat.le_refl _
    rw [List.foldl_cons, List.length_cons]
    omega
theorem uq_length_le (xs : List Str) : (uq xs).length ≤ xs.length := by
  have := uq_le xs []
  rw [List.length_nil, Nat.zero_add] at this
  exact this
theorem uq_mem_acc : ∀ (xs acc : List Str) (y : Str), y ∈ xs.foldl uqStep acc ↔ y ∈ acc ∨ y ∈ xs
  | [], acc, y => by simp
  | x :: xs, acc, y => by
    rw [List.foldl_cons, uq_mem_acc xs (uqStep acc x) y, List.mem_cons]
    unfold uqStep
    split
    · constructor
      · rintro (h | h)
        · exact .inl h
        · exact .inr (.inr h)
      · rintro (h | rfl | h)
        · exact .inl h
        · exact .inl (by assumption)
        · exact .inr h
    · rw [List.mem_append, List.mem_singleton]
      constructor
      · rintro ((h | h) | h)
        · exact .inl h
        · exact .inr (.inl h)
        · exact .inr (.inr h)
      · rintro (h | h | h)
        · exact .inl (.inl h)
        · exact .inl (.inr h)
        · exact .inr h
theorem uq_mem (xs : List Str) (y : Str) : y ∈ uq xs ↔ y ∈ xs := by
  unfold uq
  rw [uq_mem_acc]
  simp
theorem uq_nodup_acc : ∀ (xs acc : List Str), acc.Nodup → (xs.foldl uqStep acc).Nodup
  | [], acc, h => h
  | x :: xs, acc, h => by
    rw [List.foldl_cons]
    refine uq_nodup_acc xs _ ?_
    unfold uqStep
    split
    · exact h
    · rename_i hx
      rw [List.nodup_append]
      refine ⟨h, by simp, fun a ha c hc => ?_⟩
      rw [List.mem_singleton] at hc
      intro e
      exact hx (hc ▸ e ▸ ha)
theorem uq_nodup (xs : List Str) : (uq xs).Nodup := uq_nodup_acc xs [] List.nodup_nil
theorem uq_all : ∀ (xs acc : List Str), (acc ++ xs).Nodup → xs.foldl uqStep acc = acc ++ xs
  | [], acc, _ => by simp
  | x :: xs, acc, h => by
    rw [List.foldl_cons]
    have hx : x ∉ acc := fun hm => by
      rw [List.nodup_append] at h
      exact h.2.2 x hm x List.mem_cons_self rfl
    have e : uqStep acc x = acc ++ [x] := if_neg hx
    rw [e, uq_all xs (acc ++ [x]) (by rw [List.append_assoc]; exact h), List.append_assoc]
    rfl
/-- as many as there are, just where no text stands twice -/
theorem uq_len_iff (xs : List Str) : (uq xs).length = xs.length ↔ xs.Nodup := by
  constructor
  · intro h
    have h1 := uq_nodup xs
    have sub : ∀ y ∈ xs, y ∈ uq xs := fun y hy => (uq_mem xs y).mpr hy
    by_cases hn : xs.Nodup
    · exact hn
    · exfalso
      have key : ∀ (xs acc : List Str), ¬ xs.Nodup → (xs.foldl uqStep acc).length < acc.length + xs.length := by
        intro xs
        induction xs with
        | nil => intro acc h; exact absurd List.nodup_nil h
        | cons x r ih =>
          intro acc h
          rw [List.foldl_cons, List.length_cons]
          by_cases hx : x ∈ acc
          · have e : uqStep acc x = acc := if_pos hx
            rw [e]
            have := uq_le r acc
            omega
          · have e : uqStep acc x = acc ++ [x] := if_neg hx
            by_cases hr : r.Nodup
            · have hxr : x ∈ r := by
                by_cases q : x ∈ r
                · exact q
                · exact absurd (List.nodup_cons.mpr ⟨q, hr⟩) h
              have low : ∀ (r acc : List Str) (x : Str), x ∈ acc → x ∈ r → (r.foldl uqStep acc).length < acc.length + r.length := by
                intro r
                induction r with
                | nil => intro acc x _ hm; cases hm
                | cons y r ih2 =>
                  intro acc x ha hm
                  rw [List.foldl_cons, List.length_cons]
                  by_cases hy : y ∈ acc
                  · have e : uqStep acc y = acc := if_pos hy
                    rw [e]
                    have := uq_le r acc
                    omega
                  · have e : uqStep acc y = acc ++ [y] := if_neg hy
                    rcases List.mem_cons.mp hm with rfl | hm
                    · exact absurd ha hy
                    · have := ih2 (acc ++ [y]) x (List.mem_append_left _ ha) hm
                      rw [e]
                      rw [List.length_append, List.length_singleton] at this
                      omega
              rw [e]
              have := low r (acc ++ [x]) x (by simp) hxr
              rw [List.length_append, List.length_singleton] at this
              omega
            · have := ih (acc ++ [x]) hr
              rw [e]
              rw [List.length_append, List.length_singleton] at this
              omega
      have := key xs [] hn
      rw [List.length_nil, Nat.zero_add] at this
      unfold uq at h
      omega
  · intro h
    unfold uq
    rw [uq_all xs [] h]
    rfl
def inK (L : List Str) (k : Key) : Bool := L.any fun x => decide (k = Sum.inr x)
theorem inK_step (L : List Str) (x : Str) : (fun k => inK L k || decide (k = (Sum.inr x : Key))) = inK (uqStep L x) := by
  funext k
  unfold uqStep inK
  split
  · rename_i hx
    by_cases e : k = Sum.inr x
    · have : (L.any fun x => decide (k = Sum.inr x)) = true := List.any_eq_true.mpr ⟨x, hx, decide_eq_true e⟩
      rw [this]
      rfl
    · rw [decide_eq_false e, Bool.or_false]
  · rw [List.any_append]
    simp
theorem inK_self (L : List Str) (x : Str) : inK L (Sum.inr x) = decide (x ∈ L) := by
  unfold inK
  by_cases h : x ∈ L
  · rw [decide_eq_true h]
    exact List.any_eq_true.mpr ⟨x, h, decide_eq_true rfl⟩
  · rw [decide_eq_false h]
    apply Bool.eq_false_iff.mpr
    intro q
    obtain ⟨y, hy, e⟩ := List.any_eq_true.mp q
    have e1 := of_decide_eq_true e
    cases e1
    exact h hy
section
variable {prog : Program} {w : World} {A : Around} {R : Result → Shared → Prop} {I : Addr} {fp wr : List Addr} {G : Array GenState → Array GenState → Prop} {n : Nat} {P : Nat → Value → Prop} {St : Nat → Shared → Prop}
/-- the loop that fills a set of texts -/
theorem fill_texts (W : WalksS prog w A.in1 I fp wr G n P St) (S : Addr) (hSf : S ∉ fp) (xs : List Str) (hsz : xs.length = n) (hn1 : n + 1 < scanBound)
    (hval : ∀ i v, P i v → ∃ x t, xs[i]? = some x ∧ v = .str x t) : ∀ (k i : Nat) (s : Shared), n - i = k → i ≤ n → St i s →
      s.heap.SetOf (mixKind prog w) S (inK (uq (xs.take i))) (uq (xs.take i)).length →
      (∀ s', Moved (S :: wr) G s s' → s'.heap.SetOf (mixKind prog w) S (inK (uq xs)) (uq xs).length → R (.ok (.ret .none)) s') →
      codeAny (model prog w) A (.builtin "set.update.loop" ⟨[.ref S, .ref I], []⟩) R s := by
  have out : S ∉ wr := fun h => hSf (W.sub _ h)
  have more : ∀ c ∈ wr, c ∈ S :: wr := fun c hc => List.mem_cons_of_mem _ hc
  intro k
  induction k with
  | zero =>
    intro i s hk hi hst hS hR
    obtain rfl : i = n := by omega
    refine codeAny_builtin PyProof.Rows.F.entry_set_update_loop ?_
    rw [Around.under_plainId PyProof.Rows.F.plain_set_update_loop _]
    show wpAny _ A.in1 (pyNext (.ref I) >>= _) _ _ s
    refine wpAny_bind (W.done s _ _ hst fun s' hm => ?_)
    show wpAny _ A.in1 (ret Value.none) _ _ s'
    refine wpAny_pure (hR s' (hm.mono more) ?_)
    rw [List.take_of_length_le (by omega)] at hS
    obtain ⟨o, es, ep, t, ho, rest⟩ := hS
    exact ⟨o, es, ep, t, hm.heap S _ out ho, rest⟩
  | succ k ih =>
    intro i s hk hi hst hS hR
    have hlt : i < n := by omega
    refine codeAny_builtin PyProof.Rows.F.entry_set_update_loop ?_
    rw [Around.under_plainId PyProof.Rows.F.plain_set_update_loop _]
    show wpAny _ A.in1 (pyNext (.ref I) >>= _) _ _ s
    refine wpAny_bind (W.item i s _ _ hlt hst fun v s' hP hst' hm => ?_)
    obtain ⟨x, t, hx, rfl⟩ := hval i v hP
    have hS' : s'.heap.SetOf (mixKind prog w) S (inK (uq (xs.take i))) (uq (xs.take i)).length := by
      obtain ⟨o, es, ep, tb, ho, rest⟩ := hS
      exact ⟨o, es, ep, tb, hm.heap S _ out ho, rest⟩
    show wpAny _ A.in1 (holding [Value.str x t] (setAdd S (.str x t)) >>= _) _ _ s'
    refine wpAny_bind (wpAny_holding ?_)
    unfold setAdd
    refine wpAny_holding (wpAny_bind ((mixKind prog w).pyHash (k := Sum.inr x) (mixKind_str _ _ _ _) ?_))
    have room : (uq (xs.take i)).length + 1 < scanBound := by
      have h1 := uq_length_le (xs.take i)
      rw [List.length_take] at h1
      omega
    refine wpAny_setAddHashed_of (knd := mixKind prog w) (k := Sum.inr x) (s := { s' with toks := s'.toks + 1 }) (mixKind_str _ _ _ _) rfl hS' room fun h' hsb hS2 => ?_
    have et : xs.take (i + 1) = xs.take i ++ [x] := by
      rw [List.take_add_one, hx]
      rfl
    have hSi : h'.SetOf (mixKind prog w) S (inK (uq (xs.take (i + 1)))) (uq (xs.take (i + 1))).length := by
      rw [inK_step, inK_self] at hS2
      rw [et, uq_snoc]
      have el : (if decide (x ∈ uq (xs.take i)) = true then (uq (xs.take i)).length else (uq (xs.take i)).length + 1) = (uqStep (uq (xs.take i)) x).length := by
        unfold uqStep
        by_cases h : x ∈ uq (xs.take i)
        · rw [decide_eq_true h, if_pos rfl, if_pos h]
        · rw [decide_eq_false h, if_neg Bool.false_ne_true, if_neg h, List.length_append]
          rfl
      rw [el] at hS2
      exact hS2
    refine wpAny_pure ⟨plainId_quiet PyProof.Rows.F.plain_set_update_loop _, ih (i + 1) _ (by omega) hlt (W.frame _ s' _ _ hst' (Nat.le_succ _) fun c hc o e => ?_) hSi fun s'' hm'' hS'' => ?_⟩
    · have nc : c ≠ S := fun h => hSf (h ▸ hc)
      rw [hsb.2 c nc]
      exact e
    · refine hR s'' (Moved.trans W.gtrans ((hm.mono more).then_heap (Nat.le_succ _) fun c o hc e => ?_) hm'') hS''
      have nc : c ≠ S := fun h => hc (by rw [h]; exact List.mem_cons_self)
      rw [hsb.2 c nc]
      exact e
end
end Wr

set_option Elab.async false
set_option linter.all false
set_option maxRecDepth 100000
set_option maxHeartbeats 8000000
namespace Wr
open PySem PySem.Spec PyProof.Rows L2 Evl
abbrev freshSet (led : Bool) : Obj := { cls := .type "set", dict := none, data := .set #[] 0 (.fresh 0 0 led) }
section
variable {prog : Program} {w : World} {A : Around} {E : Value → Shared → Prop} {s : Shared}
/-- what set(v) asks of v: its type, its iterator -/
structure SetSrc (prog : Program) (w : World) (T : String) (l : Addr) (xs : List Str) (s : Shared) : Prop where
  sub1 : isSubtype (.type T) (.type "set") = pure false
  sub2 : isSubtype (.type T) (.type "frozenset") = pure false
  nd : (Value.type T == Value.type "dict") = false
  ob : ∃ o, s.heap.get? l = some o ∧ o.cls = .type T
  it : ∀ (A : Around) (led : Bool) (Q : Value → Shared → Prop) (E : Value → Shared → Prop), A.handled = none →
    (∀ (s2 : Shared) (I : Addr) (fp wr : List Addr) (G : Array GenState → Array GenState → Prop) (P : Nat → Value → Prop) (St : Nat → Shared → Prop), (∀ a, G a a) → (∀ a b, G a b → b = a) → WalksS prog w A.in1 I fp wr G xs.length P St → St 0 s2 →
      s.heap.objs.size ∉ fp → (∀ b o, (s.heap.push (freshSet led)).get? b = some o → s2.heap.get? b = some o) → (∀ b ∈ wr, s.heap.objs.size < b) →
      (∀ i v, P i v → ∃ x t, xs[i]? = some x ∧ v = .str x t) → s2.gens = s.gens ∧ s2.drawn = s.drawn ∧ s2.os = s.os → Q (.ref I) s2) →
    wpAny (model prog w) A (pyIter (.ref l)) Q E { s with heap := s.heap.push (freshSet led) }
theorem set_call {T : String} {l : Addr} {xs : List Str} {Q : Value → Shared → Prop} (hh : A.handled = none) (src : SetSrc prog w T l xs s) (hn : xs.length + 1 < scanBound)
    (h : ∀ (h' : Heap) (tk : Nat), h'.SetOf (mixKind prog w) s.heap.objs.size (inK (uq xs)) (uq xs).length →
      (∀ b o, b < s.heap.objs.size → s.heap.get? b = some o → h'.get? b = some o) → Q (.ref s.heap.objs.size) { s with heap := h', toks := tk }) :
    wpAny (model prog w) A (call (.type "set") [.ref l]) Q E s := by
  obtain ⟨c, tl, hmro⟩ := PySem.F.called_set.mro
  have m1 := PySem.F.called_set.made
  have m2 := PySem.F.called_set.sub
  refine wpAny_call (codeAny_of_tree ?_)
  show wpAny _ _ (callAny (.type "set") _) _ _ _
  refine wpAny_pure ⟨Code.quiet_builtin _ (by decide +kernel), codeAny_builtin PySem.F.entry_type_call ?_⟩
  rw [Around.under_plain (weight_type_call_type "set" [.ref l] []) rfl]
  have m3 := PySem.F.called_set.notType
  have m4 := PySem.F.called_set.canCreate
  have m5 := PySem.F.typeCall_set_1 (.ref l)
  repeat (any_goals (first | assumption | wp_step))
  refine codeAny_mono (code_set_new_1 (.ref l) (E := E) (Q₁ := fun obj s₁ => ∃ led : Bool, obj = .ref s.heap.objs.size ∧
    s₁ = { s with heap := s.heap.push (freshSet led) }) fun led => ⟨led, rfl, rfl⟩) fun r s₁ hr => ?_
  cases r with
  | error e => exact hr
  | ok fl =>
    cases fl with
    | ret obj =>
      obtain ⟨led, rfl, rfl⟩ := hr
      have hS : (s.heap.push (freshSet led)).get? s.heap.objs.size = some (freshSet led) := Heap.get?_push_size _ rfl
      have hT : Shared.TypeIs { s with heap := s.heap.push (freshSet led) } (.ref s.heap.objs.size) "set" := ⟨_, hS, rfl⟩
      have m6 := PySem.F.called_set.init.lookup
      have m7 := PySem.F.called_set.init.bind (.ref s.heap.objs.size)
      repeat (any_goals (first | assumption | wp_step))
      refine codeAny_mono (codeAny_call_builtin (R := wants (fun r s₂ => r = .none ∧ ∃ h' tk, s₂ = { s with heap := h', toks := tk } ∧
          h'.SetOf (mixKind prog w) s.heap.objs.size (inK (uq xs)) (uq xs).length ∧ ∀ b o, b < s.heap.objs.size → s.heap.get? b = some o → h'.get? b = some o) E)
        PySem.F.called_set.init.plain PySem.F.entry_set_init (check_set_init_1 hT ?_)) fun r₂ s₂ hr₂ => ?_
      · obtain ⟨⟨ocls, odict, odata, oslots⟩, hol, hcl⟩ := src.ob
        simp only at hcl
        subst hcl
        have hol' : (s.heap.push (freshSet led)).get? l = some { cls := .type T, dict := odict, data := odata, slots := oslots } := Heap.get?_push_of_some _ hol
        have m8 := src.sub1
        have m9 := src.sub2
        have m10 := src.nd
        unfold Builtin.«set.__init__» noKeywords Builtin.Frozenset.updateFrom
        generalize hPI : pyIter = PI
        wp_walk
        subst hPI
        refine src.it _ led _ _ (by simp [hh]) fun s2 I fp wr G P St g1 g2 W st hS2 k2 hw hval hsame => ?_
        refine wpAny_bind (wpAny_runValue ?_)
        refine fill_texts W s.heap.objs.size hS2 xs rfl hn hval (xs.length - 0) 0 _ (by omega) (Nat.zero_le _) st ?hS0 ?hR
        case hS0 =>
          have g0 : s2.heap.get? s.heap.objs.size = some (freshSet led) := k2 _ _ hS
          show s2.heap.SetOf (mixKind prog w) s.heap.objs.size (fun _ => false) 0
          exact ⟨_, #[], 0, _, g0, ⟨rfl, rfl, rfl⟩, rfl, fun e he => by simp at he, fun k => by simp, by decide, by rfl, rfl⟩
        case hR =>
          intro s' hm hS'
          obtain ⟨hp', g', d', tk', os'⟩ := s'
          obtain ⟨q1, q2, q3⟩ := hsame
          have eg : g' = s.gens := (g2 _ _ hm.gens).trans q1
          have ed : d' = s.drawn := hm.drawn.trans q2
          have eo : os' = s.os := hm.os.trans q3
          subst eg ed eo
          refine wpAny_pure ?_
          show wpAny _ _ (ret Value.none) _ _ _
          refine wpAny_pure ⟨rfl, hp', tk', rfl, hS', fun b o hb e => ?_⟩
          refine hm.heap b o (fun hmem => ?_) (k2 b o (Heap.get?_push_of_some _ e))
          rcases List.mem_cons.mp hmem with z | z
          · exact absurd (z ▸ hb) (Nat.lt_irrefl _)
          · exact absurd (hw b z) (Nat.not_lt.mpr (Nat.le_of_lt hb))
      · cases r₂ with
        | error e => exact hr₂
        | ok fl₂ =>
          cases fl₂ with
          | ret r =>
            obtain ⟨rfl, h', tk, rfl, hS', hk'⟩ := hr₂
            repeat (any_goals (first | assumption | wp_step))
            exact h _ _ hS' hk'
          | _ => exact hr₂.elim
    | _ => exact hr.elim
end
end Wr

set_option Elab.async false
set_option linter.all false
set_option maxRecDepth 100000
set_option maxHeartbeats 8000000
namespace Wr
open PySem PySem.Spec PyProof.Rows L2 Evl
theorem strs_val : ∀ {xs : List Str} {us : List Value} {i : Nat} {v : Value}, Vals (xs.map V.str) us → us[i]? = some v → ∃ x t, xs[i]? = some x ∧ v = .str x t
  | [], _, i, v, .nil, h => by simp at h
  | x :: xs, _, 0, v, .cons r _, h => by
    obtain ⟨t, e⟩ := r
    have h' := Option.some.inj h
    exact ⟨x, t, rfl, by rw [← h', e]⟩
  | x :: xs, _, i + 1, v, .cons _ r, h => by
    obtain ⟨y, t, h1, h2⟩ := strs_val r (i := i) (v := v) h
    exact ⟨y, t, h1, h2⟩
section
variable {prog : Program} {w : World} {A : Around} {E : Value → Shared → Prop} {s : Shared}
theorem src_list {l : Addr} {items : Array Value} {xs : List Str} (hl : s.heap.IsList l items) (hi : Vals (xs.map V.str) items.toList) : SetSrc prog w "list" l xs s where
  sub1 := PySem.F.sub_list_set
  sub2 := PySem.F.sub_list_frozenset
  nd := by decide
  ob := by
    obtain ⟨o, ho, hc, _⟩ := hl
    exact ⟨o, ho, hc⟩
  it := fun A led Q E hh k => by
    have hl1 : (s.heap.push (freshSet led)).IsList l items := by
      obtain ⟨o, ho, r⟩ := hl
      exact ⟨o, Heap.get?_push_of_some _ ho, r⟩
    have hls : l < s.heap.objs.size := by
      obtain ⟨o, ho, _⟩ := hl
      exact Heap.lt_size ho
    refine wpAny_pyIter_list hl1 ?_
    have hz : (s.heap.push (freshSet led)).objs.size = s.heap.objs.size + 1 := Heap.size_push ..
    have hne : l ≠ (s.heap.push (freshSet led)).objs.size := by
      rw [hz]
      exact Nat.ne_of_lt (Nat.lt_succ_of_lt hls)
    have hlen : xs.length = items.size := by
      have := hi.length
      rw [List.length_map, Array.length_toList] at this
      exact this
    have W := ((Walks.list (prog := prog) (w := w) (A := A.in1) hh _ l hne items).toS)
    rw [← hlen] at W
    refine k _ _ _ _ (fun a b => b = a) _ _ (fun _ => rfl) (fun _ _ e => e) W ?_ ?_ (fun b o e => Heap.get?_push_of_some _ e) ?_ ?_ ⟨rfl, rfl, rfl⟩
    · exact ⟨⟨_, Heap.get?_push_size _ rfl, rfl, rfl⟩, hl1.push _⟩
    · rw [hz]
      simp only [List.mem_cons, List.not_mem_nil, or_false, not_or]
      exact ⟨Nat.ne_of_lt (Nat.lt_succ_self _), Nat.ne_of_gt hls⟩
    · intro b hb
      rw [hz] at hb
      rw [List.mem_singleton.mp hb]
      exact Nat.lt_succ_self _
    · intro i v hv
      have hv' : items.toList[i]? = some v := by
        rw [Array.getElem?_toList]
        exact hv
      exact strs_val hi hv'
theorem src_tuple {l : Addr} {items : Array Value} {xs : List Str} (hl : s.heap.IsTuple l items) (hi : Vals (xs.map V.str) items.toList) : SetSrc prog w "tuple" l xs s where
  sub1 := PySem.F.sub_tuple_set
  sub2 := PySem.F.sub_tuple_frozenset
  nd := by decide
  ob := by
    obtain ⟨o, ho, hc, _⟩ := hl
    exact ⟨o, ho, hc⟩
  it := fun A led Q E hh k => by
    have hl1 : (s.heap.push (freshSet led)).IsTuple l items := by
      obtain ⟨o, ho, r⟩ := hl
      exact ⟨o, Heap.get?_push_of_some _ ho, r⟩
    have hls : l < s.heap.objs.size := by
      obtain ⟨o, ho, _⟩ := hl
      exact Heap.lt_size ho
    refine wpAny_pyIter_tuple hl1 ?_
    have hz : (s.heap.push (freshSet led)).objs.size = s.heap.objs.size + 1 := Heap.size_push ..
    have hne : l ≠ (s.heap.push (freshSet led)).objs.size := by
      rw [hz]
      exact Nat.ne_of_lt (Nat.lt_succ_of_lt hls)
    have hlen : xs.length = items.size := by
      have := hi.length
      rw [List.length_map, Array.length_toList] at this
      exact this
    have W := ((Walks.tuple (prog := prog) (w := w) (A := A.in1) hh _ l hne items).toS)
    rw [← hlen] at W
    refine k _ _ _ _ (fun a b => b = a) _ _ (fun _ => rfl) (fun _ _ e => e) W ?_ ?_ (fun b o e => Heap.get?_push_of_some _ e) ?_ ?_ ⟨rfl, rfl, rfl⟩
    · exact ⟨⟨_, Heap.get?_push_size _ rfl, rfl, rfl⟩, hl1.push _⟩
    · rw [hz]
      simp only [List.mem_cons, List.not_mem_nil, or_false, not_or]
      exact ⟨Nat.ne_of_lt (Nat.lt_succ_self _), Nat.ne_of_gt hls⟩
    · intro b hb
      rw [hz] at hb
      rw [List.mem_singleton.mp hb]
      exact Nat.lt_succ_self _
    · intro i v hv
      have hv' : items.toList[i]? = some v := by
        rw [Array.getElem?_toList]
        exact hv
      exact strs_val hi hv'
end
/-! ### the rules -/
def rSetS (K : PySem.W.Frag) (P : Program) (w : World) : List V → Hp → VK → Prop := fun vs H Q => ∃ l, ∃ xs : List Str, vs = [.ref l] ∧ (SqL K H l (xs.map V.str) ∨ SqT K H l (xs.map V.str)) ∧ xs.length ≤ 1000 ∧
  ∀ p, H p = none → Q (.ref p) (upd H p (SetK P w p (inK (uq xs)) (uq xs).length))
theorem cr_setS {X : Cx} (hc : X.calm = true) : CallR X (.type "set") (rSetS X.K X.prog X.w) := by
  intro pins s σ H vs us Q I r h
  obtain ⟨l, xs, rfl, hq, hl, q⟩ := h
  rw [Vals.ref1 r]
  have hsc : xs.length + 1 < scanBound := by unfold scanBound; omega
  have fin : ∀ (h' : Heap) (tk : Nat), h'.SetOf (mixKind X.prog X.w) s.heap.objs.size (inK (uq xs)) (uq xs).length →
      (∀ b o, b < s.heap.objs.size → s.heap.get? b = some o → h'.get? b = some o) → EP X pins σ Q (.ref s.heap.objs.size) { s with heap := h', toks := tk } := fun h' tk new k =>
    ⟨.ref _, upd H s.heap.objs.size (SetK X.prog X.w s.heap.objs.size (inK (uq xs)) (uq xs).length), I.laid (t' := tk) (fun b u e => k b u (Heap.lt_size e) e) (Nat.le_refl _) (setK_new new), rfl, q _ (I.hok.fresh (Nat.le_refl _))⟩
  rcases hq with hq | hq
  · obtain ⟨its, rv, pl, hz⟩ := I.list hq
    exact set_call (I.ok.hd hc) (src_list pl.isList (by simpa using rv)) hsc fin
  · obtain ⟨its, rv, pl, hz⟩ := I.tuple hq
    exact set_call (I.ok.hd hc) (src_tuple pl (by simpa using rv)) hsc fin
def rLenK (P : Program) (w : World) : List V → Hp → VK → Prop := fun vs H Q => ∃ a S n, vs = [.ref a] ∧ H a = some (SetK P w a S n) ∧ n ≤ 1000000 ∧ Q (.int (n : Nat)) H
theorem call_lenK {X : Cx} : CallR X (.builtin "len") (rLenK X.prog X.w) := by
  intro pins s σ H vs us Q I r h
  obtain ⟨a, S, n, rfl, ha, hn, q⟩ := h
  rw [Vals.ref1 r]
  obtain ⟨o, es, ep, t, ho, hex, hd, _, _, _, hf, hn'⟩ := setK_get I ha
  refine call_len_set ho hex hd hf (by rw [hn']; omega) ⟨.int (n : Nat), H, I.tok _, ⟨_, by rw [hn']⟩, q⟩
section
variable {K : PySem.W.Frag} {b : List Addr} {σ : L2.St} {H H' : Hp} {ta : TE} {P : Program} {w : World}
theorem ed_lenSet {d : PyData} {xs : List Str} (ha : ED K b ta σ H d) (hd : d = .list (xs.map PyData.str) ∨ d = .tuple (xs.map PyData.str)) (hl : xs.length ≤ 1000) :
    ED K b (tCB (rLenK P w) (tCons (tCB (rSetS K P w) (tCons ta tNil)) tNil)) σ H (.int ((uq xs).length : Nat)) := fun H1 x1 Q q =>
  ha H1 x1 _ fun x H2 x2 hx => by
    have hx' := hx.dd
    have fin : ∀ a, (SqL K H2 a (xs.map V.str) ∨ SqT K H2 a (xs.map V.str)) → x = .ref a → tCB (rLenK P w) (tCons (tCB (rSetS K P w) (tCons (tC x) tNil)) tNil) σ H2 Q := fun a hs e => by
      subst e
      refine ⟨a, xs, rfl, hs, hl, fun p hp => ⟨p, _, _, rfl, upd_same, ?_, q _ _ (x2.trans (Ex.new hp)) (.int _)⟩⟩
      have := uq_length_le xs
      omega
    rcases hd with rfl | rfl
    · cases hx' with
      | lst h1 h2 =>
        rw [dps_strs h2] at h1
        exact fin _ (.inl h1) rfl
    · cases hx' with
      | tup h1 _ h2 =>
        rw [dps_strs h2] at h1
        exact fin _ (.inr h1) rfl
end
end Wr

set_option Elab.async false
set_option linter.all false
set_option maxRecDepth 100000
set_option maxHeartbeats 4000000
namespace Wr
open PySem PySem.Spec PyProof.Rows L2 Evl
theorem pe_tyN {X : Cx} {x : Str} {T : String} {pos : Pos} (hg : Gl X x) (hm : X.mg x = none) (hv : bootBuiltins x = some (.type T)) (hn : x ≠ "__name__" := by decide) (hd : (x == ("__debug__" : Str)) = false := by decide) : PE X (.Name x pos) (tC (.ty T)) := pe_bltn hg hm hv rfl hn hd
theorem bt_int : bootBuiltins "int" = some (.type "int") := by decide +kernel
theorem bt_bool : bootBuiltins "bool" = some (.type "bool") := by decide +kernel
theorem bt_str : bootBuiltins "str" = some (.type "str") := by decide +kernel
theorem bt_tuple : bootBuiltins "tuple" = some (.type "tuple") := by decide +kernel
theorem bt_list : bootBuiltins "list" = some (.type "list") := by decide +kernel
theorem bt_set : bootBuiltins "set" = some (.type "set") := by decide +kernel
theorem bb_isinstance : bootBuiltins "isinstance" = some (.builtin "isinstance") := by decide +kernel
theorem bb_len : bootBuiltins "len" = some (.builtin "len") := by decide +kernel
theorem bb_all : bootBuiltins "all" = some (.builtin "all") := by decide +kernel
theorem bb_abs : bootBuiltins "abs" = some (.builtin "abs") := by decide +kernel
theorem bb_max : bootBuiltins "max" = some (.builtin "max") := by decide +kernel
theorem bb_min : bootBuiltins "min" = some (.builtin "min") := by decide +kernel
theorem bb_repr : bootBuiltins "repr" = some (.builtin "repr") := by decide +kernel
theorem bb_sorted : bootBuiltins "sorted" = some (.builtin "sorted") := by decide +kernel
/-- what a def of one, two, three, four data takes -/
theorem one_of {K : PySem.W.Frag} {H : Hp} {vs : List V} {ds : List PyData} (h : DdAll K H vs ds) (hl : ds.length = 1) : ∃ v d, vs = [v] ∧ ds = [d] ∧ Dd K H v d := by
  match ds, hl, h with
  | [d], _, .cons h1 .nil => exact ⟨_, d, rfl, rfl, h1⟩
theorem two_of {K : PySem.W.Frag} {H : Hp} {vs : List V} {ds : List PyData} (h : DdAll K H vs ds) (hl : ds.length = 2) : ∃ v v2 d d2, vs = [v, v2] ∧ ds = [d, d2] ∧ Dd K H v d ∧ Dd K H v2 d2 := by
  match ds, hl, h with
  | [d, d2], _, .cons h1 (.cons h2 .nil) => exact ⟨_, _, d, d2, rfl, rfl, h1, h2⟩
theorem four_of {K : PySem.W.Frag} {H : Hp} {vs : List V} {ds : List PyData} (h : DdAll K H vs ds) (hl : ds.length = 4) : ∃ v v2 v3 v4 d d2 d3 d4, vs = [v, v2, v3, v4] ∧ ds = [d, d2, d3, d4] ∧ Dd K H v d ∧ Dd K H v2 d2 ∧ Dd K H v3 d3 ∧ Dd K H v4 d4 := by
  match ds, hl, h with
  | [d, d2, d3, d4], _, .cons h1 (.cons h2 (.cons h3 (.cons h4 .nil))) => exact ⟨_, _, _, _, d, d2, d3, d4, rfl, rfl, h1, h2, h3, h4⟩
theorem spP_len {K : PySem.W.Frag} {n : Nat} {pre : List PyData → Prop} {f : List PyData → PyData} (hl : ∀ ds, pre ds → ds.length = n) {vs : List V} {H : Hp} {Q : VK} {E : XK} (h : spP K pre f vs H Q E) : vs.length = n := by
  obtain ⟨b, ds, _, hd, hp, _⟩ := h
  rw [dps_len hd, hl ds hp]
/-- data that are small enough to be looked at -/
structure Nice (d : PyData) : Prop where
  sh : SeqAt.shaped d = true
end Wr

set_option Elab.async false
set_option linter.all false
set_option maxRecDepth 100000
set_option maxHeartbeats 4000000
namespace Wr
open PySem PySem.Spec PyProof.Rows L2 Evl
/-! ### data within bounds -/
def okD : Nat → PyData → Bool
  | _, .none => true
  | _, .bool _ => true
  | _, .int i => decide (i.natAbs < 10 ^ 45)
  | _, .str x => PyData.strOk x && decide (x.length ≤ 1000)
  | n + 1, .list ds => decide (ds.length ≤ 1000) && ds.all (okD n)
  | n + 1, .tuple ds => decide (ds.length ≤ 1000) && ds.all (okD n)
  | _, _ => false
theorem lay_all : ∀ {ds : List PyData}, (∀ d ∈ ds, d.canLay0 = true) → PyData.canLayAll0 ds = true
  | [], _ => by simp only [PyData.canLayAll0]
  | d :: ds, h => by
    simp only [PyData.canLayAll0, h d List.mem_cons_self, lay_all fun e he => h e (List.mem_cons_of_mem _ he), Bool.and_self]
theorem depth_all {n : Nat} : ∀ {ds : List PyData}, (∀ d ∈ ds, d.depth ≤ n) → PyData.depthAll ds ≤ n
  | [], _ => by simp only [PyData.depthAll]; exact Nat.zero_le _
  | d :: ds, h => by
    have h1 := h d List.mem_cons_self
    have h2 := depth_all fun e he => h e (List.mem_cons_of_mem _ he)
    simp only [PyData.depthAll]
    omega
theorem show_all : ∀ {ds : List PyData}, (∀ d ∈ ds, d.showable = true) → PyData.showableAll ds = true
  | [], _ => by simp only [PyData.showableAll]
  | d :: ds, h => by
    simp only [PyData.showableAll, h d List.mem_cons_self, show_all fun e he => h e (List.mem_cons_of_mem _ he), Bool.and_self]
theorem log_small {i : Int} (h : i.natAbs < 10 ^ 45) : i.natAbs.log2 < 1920 := by
  by_cases h0 : i.natAbs = 0
  · rw [h0]; decide
  · have h1 : i.natAbs < 2 ^ 1920 := Nat.lt_trans h (by decide)
    exact (Nat.log2_lt h0).mpr h1
theorem ok_facts : ∀ (n : Nat) (d : PyData), okD n d = true → d.canLay0 = true ∧ d.depth ≤ n ∧ d.showable = true
  | _, .none, _ => by refine ⟨by simp only [PyData.canLay0], by simp only [PyData.depth]; exact Nat.zero_le _, by simp only [PyData.showable]⟩
  | _, .bool _, _ => by refine ⟨by simp only [PyData.canLay0], by simp only [PyData.depth]; exact Nat.zero_le _, by simp only [PyData.showable]⟩
  | n, .int i, h => by
    refine ⟨by simp only [PyData.canLay0], by simp only [PyData.depth]; exact Nat.zero_le _, ?_⟩
    have h' : decide (i.natAbs < 10 ^ 45) = true := by
      cases n <;> exact h
    simp only [PyData.showable]
    exact decide_eq_true (log_small (of_decide_eq_true h'))
  | n, .str x, h => by
    have h' : (PyData.strOk x && decide (x.length ≤ 1000)) = true := by cases n <;> exact h
    refine ⟨?_, by simp only [PyData.depth]; exact Nat.zero_le _, by simp only [PyData.showable]⟩
    simp only [PyData.canLay0]
    exact (Bool.and_eq_true_iff.mp h').1
  | 0, .list ds, h => by cases h
  | 0, .tuple ds, h => by cases h
  | n + 1, .list ds, h => by
    have h' := List.all_eq_true.mp (Bool.and_eq_true_iff.mp (show (decide (ds.length ≤ 1000) && ds.all (okD n)) = true from h)).2
    have q := fun d hd => ok_facts n d (h' d hd)
    refine ⟨?_, ?_, ?_⟩
    · simp only [PyData.canLay0]
      exact lay_all fun d hd => (q d hd).1
    · simp only [PyData.depth]
      exact Nat.succ_le_succ (depth_all fun d hd => (q d hd).2.1)
    · simp only [PyData.showable]
      exact show_all fun d hd => (q d hd).2.2
  | n + 1, .tuple ds, h => by
    have h' := List.all_eq_true.mp (Bool.and_eq_true_iff.mp (show (decide (ds.length ≤ 1000) && ds.all (okD n)) = true from h)).2
    have q := fun d hd => ok_facts n d (h' d hd)
    refine ⟨?_, ?_, ?_⟩
    · simp only [PyData.canLay0]
      exact lay_all fun d hd => (q d hd).1
    · simp only [PyData.depth]
      exact Nat.succ_le_succ (depth_all fun d hd => (q d hd).2.1)
    · simp only [PyData.showable]
      exact show_all fun d hd => (q d hd).2.2
  | 0, .dict _, h => by cases h
  | _ + 1, .dict _, h => by cases h
theorem ok_shaped {n : Nat} {d : PyData} (h : okD n d = true) (hn : n ≤ 64 := by omega) : SeqAt.shaped d = true := by
  obtain ⟨h1, h2, _⟩ := ok_facts n d h
  show (d.canLay0 && decide (d.depth ≤ 64)) = true
  rw [h1, decide_eq_true (by omega)]
  rfl
theorem ok_items {n : Nat} {ds : List PyData} (h : okD (n + 1) (.tuple ds) = true) : ∀ d ∈ ds, okD n d = true :=
  List.all_eq_true.mp (Bool.and_eq_true_iff.mp (show (decide (ds.length ≤ 1000) && ds.all (okD n)) = true from h)).2
theorem ok_itemsL {n : Nat} {ds : List PyData} (h : okD (n + 1) (.list ds) = true) : ∀ d ∈ ds, okD n d = true :=
  List.all_eq_true.mp (Bool.and_eq_true_iff.mp (show (decide (ds.length ≤ 1000) && ds.all (okD n)) = true from h)).2
theorem ok_len {n : Nat} {ds : List PyData} (h : okD n (.tuple ds) = true) : ds.length ≤ 1000 := by
  cases n with
  | zero => cases h
  | succ n => exact of_decide_eq_true (Bool.and_eq_true_iff.mp (show (decide (ds.length ≤ 1000) && ds.all (okD n)) = true from h)).1
theorem ok_lenL {n : Nat} {ds : List PyData} (h : okD n (.list ds) = true) : ds.length ≤ 1000 := by
  cases n with
  | zero => cases h
  | succ n => exact of_decide_eq_true (Bool.and_eq_true_iff.mp (show (decide (ds.length ≤ 1000) && ds.all (okD n)) = true from h)).1
theorem ok_str {n : Nat} {x : Str} (h : okD n (.str x) = true) : x.length ≤ 1000 := by
  have h' : (PyData.strOk x && decide (x.length ≤ 1000)) = true := by cases n <;> exact h
  exact of_decide_eq_true (Bool.and_eq_true_iff.mp h').2
theorem ok_mono : ∀ (n : Nat) (d : PyData), okD n d = true → okD (n + 1) d = true
  | _, .none, _ => rfl
  | _, .bool _, _ => rfl
  | n, .int i, h => by cases n <;> exact h
  | n, .str x, h => by cases n <;> exact h
  | 0, .list ds, h => by cases h
  | 0, .tuple ds, h => by cases h
  | n + 1, .list ds, h => by
    have h' : (decide (ds.length ≤ 1000) && ds.all (okD n)) = true := h
    show (decide (ds.length ≤ 1000) && ds.all (okD (n + 1))) = true
    rw [Bool.and_eq_true] at h' ⊢
    exact ⟨h'.1, List.all_eq_true.mpr fun d hd => ok_mono n d (List.all_eq_true.mp h'.2 d hd)⟩
  | n + 1, .tuple ds, h => by
    have h' : (decide (ds.length ≤ 1000) && ds.all (okD n)) = true := h
    show (decide (ds.length ≤ 1000) && ds.all (okD (n + 1))) = true
    rw [Bool.and_eq_true] at h' ⊢
    exact ⟨h'.1, List.all_eq_true.mpr fun d hd => ok_mono n d (List.all_eq_true.mp h'.2 d hd)⟩
  | 0, .dict _, h => by cases h
  | _ + 1, .dict _, h => by cases h
theorem ok_up {n m : Nat} {d : PyData} (h : okD n d = true) (hm : n ≤ m) : okD m d = true := by
  obtain ⟨k, rfl⟩ := Nat.exists_eq_add_of_le hm
  induction k with
  | zero => exact h
  | succ k ih => exact ok_mono _ _ (ih (Nat.le_add_right _ _))
theorem isD_tuple {d : PyData} (h : isD "tuple" d = true) : ∃ ds, d = .tuple ds := by
  cases d <;> first | exact ⟨_, rfl⟩ | (simp [isD, dTy, tyIs] at h)
theorem isD_list {d : PyData} (h : isD "list" d = true) : ∃ ds, d = .list ds := by
  cases d <;> first | exact ⟨_, rfl⟩ | (simp [isD, dTy, tyIs] at h)
theorem isD_str {d : PyData} (h : isD "str" d = true) : ∃ x, d = .str x := by
  cases d <;> first | exact ⟨_, rfl⟩ | (simp [isD, dTy, tyIs] at h)
/-! ### the program's own functions, on data -/
def wholeD (d : PyData) : Bool := isD "int" d && !isD "bool" d
theorem wholeD_int {d : PyData} (h : wholeD d = true) : ∃ i, d = .int i := by
  cases d <;> first | exact ⟨_, rfl⟩ | (simp [wholeD, isD, dTy, tyIs] at h)
def worthD (d : PyData) : Bool := match d with
  | .int i => decide (-1000000000000 ≤ i) && decide (i ≤ 1000000000000)
  | _ => false
def indexD (d : PyData) (n : Int) : Bool := match d with
  | .int i => decide (0 ≤ i) && decide (i < n)
  | _ => false
def nameS (x : Str) : Bool := decide (x.length ≤ 8) && (Txt.isascii x && (Txt.isalpha x && Txt.islower x))
def nameD (d : PyData) : Bool := match d with
  | .str x => nameS x
  | _ => false
def strsOf (ds : List PyData) : List Str := ds.filterMap fun d => match d with
  | .str x => some x
  | _ => none
def unlikeS (xs : List Str) : Bool := decide ((uq xs).length = xs.length)
def namesD (d : PyData) : Bool := match d with
  | .tuple ds => decide (ds.length ≤ 3) && (ds.all nameD && unlikeS (strsOf ds))
  | _ => false
def headedD (d : PyData) : Bool := match d with
  | .tuple [a, c, _] => nameD a && namesD c
  | _ => false
def fst (d : PyData) : PyData := match d with
  | .tuple (a :: _) => a
  | _ => .none
def thd (d : PyData) : PyData := match d with
  | .tuple (_ :: _ :: a :: _) => a
  | _ => .none
def headedAll (d : PyData) (most : Int) : Bool := match d with
  | .tuple ds => (decide (1 ≤ ds.length) && decide ((ds.length : Int) ≤ most)) && (ds.all headedD && unlikeS (strsOf (ds.map fst)))
  | _ => false
def loneW : List Str := ["add", "less", "times", "over", "same", "below", "twin", "swap", "away", "say", "back", "throw", "done", "lead", "turn"]
def nameW : List Str := ["get", "set", "look", "change"]
def rowW : List Str := ["go", "if", "try"]
def rowD (d : PyData) (at_ many : Int) (called : List Str) : Bool := match d with
  | .tuple [a] => inD a (loneW.map .str)
  | .tuple [a, c] =>
    if PyData.eqv a (.str "put") = true then worthD c
    else if inD a (nameW.map .str) = true then nameD c
    else if PyData.eqv a (.str "call") = true then inD c (called.map .str)
    else inD a (rowW.map .str) && (indexD c many && !(PyData.eqv a (.str "try") && PyData.eqv c (.int (at_ + 1))))
  | _ => false
def rowsD (d : PyData) (called : List Str) : Bool := match d with
  | .tuple ds => (decide (1 ≤ ds.length) && decide (ds.length ≤ 60)) && ((List.range ds.length).all fun i => rowD (ds.getD i .none) i ds.length called)
  | _ => false
def progD (d : PyData) : Bool := match d with
  | .tuple ds => headedAll (.tuple ds) 8 && ds.all fun p => rowsD (thd p) (strsOf (ds.map fst))
  | _ => false
end Wr

set_option Elab.async false
set_option linter.all false
set_option maxRecDepth 100000
set_option maxHeartbeats 4000000
namespace Wr
open PySem PySem.Spec PyProof.Rows L2 Evl
section
variable {K : PySem.W.Frag} {b : List Addr} {σ : L2.St} {H H' : Hp} {ta te : TE} {tt : TT} {d : PyData} {ds : List PyData}
theorem et_n {c : Bool} (h : EvT tt σ H c) : EvT (tNot tt) σ H (!c) := fun H1 x Q q => h H1 x _ fun H2 x2 => q H2 x2
theorem ed_m0 {C : Str → Prop} {g : Str → V} {x : Str} {z : PyData} (ha : ED K b ta σ H (.str x)) (hc : C x) (hz : ∀ H', Dq K b H' (g x) z) : ED K b (tBM0 K "str" (fun x xs H Q => ∃ a, x = .str a ∧ xs = [] ∧ C a ∧ Q (g a) H) ta) σ H z := fun H1 x1 Q q =>
  ha H1 x1 _ fun v H2 x2 hv => by
    cases hv
    exact ⟨rfl, x, rfl, rfl, hc, q _ H2 x2 (hz _)⟩
end
theorem pe_gI {X : Cx} {x : Str} {i : Int} {t : Tok} {pos : Pos} (hm : X.mg x = some (.int i t)) (hg : Gl X x := by rfl) (hd : (x == ("__debug__" : Str)) = false := by decide) : PE X (.Name x pos) (tC (.int i)) := pe_glob hg hm ⟨t, rfl⟩ hd
theorem pe_gR {X : Cx} {x : Str} {a : Addr} {pos : Pos} (hm : X.mg x = some (.ref a)) (hg : Gl X x := by rfl) (hd : (x == ("__debug__" : Str)) = false := by decide) : PE X (.Name x pos) (tC (.ref a)) := pe_glob hg hm rfl hd
/-- the built-ins that the text uses are still the built-ins -/
structure Blt (mg : Str → Option Value) : Prop where
  isi : mg "isinstance" = none
  len : mg "len" = none
  all : mg "all" = none
  enum : mg "enumerate" = none
  set : mg "set" = none
  int : mg "int" = none
  bool : mg "bool" = none
  str : mg "str" = none
  tuple : mg "tuple" = none
  list : mg "list" = none
  range : mg "range" = none
/-- a def of the text -/
structure Def (K : PySem.W.Frag) (mg : Str → Option Value) (x : Str) (st : Stmt) (ps : List Str) (f : Addr) (fd : FuncData) : Prop where
  F : Fun K x x st f fd
  b : Binds K fd ps []
  m : mg x = some (.ref f)
theorem pe_cd {X : Cx} {x : Str} {st : Stmt} {k : Nat} {ps : List Str} {sp : Sp} {f : Addr} {fd : FuncData} {p pos : Pos} {e : Expr} {es : List Expr} {t : TA} (D : Def X.K X.mg x st ps f fd) (G : FnOk X.prog X.w X.K X.mg X.base CX0 k f fd ps sp) (hr : Room k X.A) (ha : PA X (e :: es) t)
    (hg : Gl X x := by rfl) (hdb : (x == ("__debug__" : Str)) = false := by decide) (he : starEach (e :: es) X.env = (false, eval e X.env) :: starEach es X.env := by rfl) (hpl : (backTo pos (starEach es X.env)).any (·.1) = false := by rfl) :
    PE X (.Call (.Name x p) (e :: es) [] pos) (tCall sp [] E0 t) := pe_call G hr hg D.m D.F.kp D.b .nil pass0 ha hdb he hpl
def topS (i : Nat) : Stmt := PySem.Challenge.pw_watchedrun_k12_values_reckoned.main.body.getD i (.Pass ⟨0, 0, 0, 0⟩)
abbrev s_is_whole : Stmt := topS 2
abbrev s_is_worth : Stmt := topS 3
theorem sc_is_whole : FnScope ["thing"] ["thing"] (defScope s_is_whole) := ⟨rfl, rfl, rfl, by decide +kernel, rfl, by decide +kernel, by decide +kernel⟩
theorem sc_is_worth : FnScope ["thing"] ["thing"] (defScope s_is_worth) := ⟨rfl, rfl, rfl, by decide +kernel, rfl, by decide +kernel, by decide +kernel⟩
/-- one datum, a truth -/
def F1 (g : PyData → Bool) (ds : List PyData) : PyData := match ds with
  | [d] => .bool (g d)
  | _ => .none
def F2 (g : PyData → PyData → Bool) (ds : List PyData) : PyData := match ds with
  | [d, e] => .bool (g d e)
  | _ => .none
def intOf (d : PyData) : Int := match d with
  | .int i => i
  | _ => 0
section
variable {P : Program} {w : World} {K : PySem.W.Frag} {mg : Str → Option Value} {base : Heap} {f g g2 g3 : Addr} {fd gd gd2 gd3 : FuncData}
theorem ok_is_whole (D : Def K mg "is_whole" s_is_whole ["thing"] f fd) (B : Blt mg) : FnOk P w K mg base CX0 1 f fd ["thing"] (spP K (fun ds => ds.length = 1) (F1 wholeD)) := by
  refine D.F.ok sc_is_whole (fun vs H Q E h => spP_len (fun _ h => h) h) (fun cdv A outer s H vs Q E hr h => ?_)
  obtain ⟨b, ds, kn, hd, hp, q⟩ := h
  obtain ⟨v, d, rfl, rfl, h1⟩ := one_of hd hp
  refine ⟨_, pss_one (ps_ret (pe_and (pe_callB call_isi rfl B.isi bb_isinstance (pa_cons (pv 0) (pa_cons (pe_tyN rfl B.int bt_int) pa_nil)))
    (pe_one (pe_not (pe_callB call_isi rfl B.isi bb_isinstance (pa_cons (pv 0) (pa_cons (pe_tyN rfl B.bool bt_bool) pa_nil))))))), ?_⟩
  exact SR.fin (sr_ret (ed_andB (ed_isi (.inl rfl) (ed_var rfl h1)) fun _ => ed_not (ed_isi (.inr (.inl rfl)) (ed_var rfl h1)))) q
theorem ok_is_worth (D : Def K mg "is_worth" s_is_worth ["thing"] f fd) (D1 : Def K mg "is_whole" s_is_whole ["thing"] g gd) (B : Blt mg) {t : Tok} (mW : mg "MOST_WORTH" = some (.int 1000000000000 t)) :
    FnOk P w K mg base CX0 2 f fd ["thing"] (spP K (fun ds => ds.length = 1) (F1 worthD)) := by
  refine D.F.ok sc_is_worth (fun vs H Q E h => spP_len (fun _ h => h) h) (fun cdv A outer s H vs Q E hr h => ?_)
  obtain ⟨b, ds, kn, hd, hp, q⟩ := h
  obtain ⟨v, d, rfl, rfl, h1⟩ := one_of hd hp
  refine ⟨_, pss_one (ps_ret (pe_and (pe_cd D1 (ok_is_whole D1 B) hr (pa_cons (pv 0) pa_nil))
    (pe_one (pe_chain op_le op_le (pe_un un_neg (pe_gI mW)) (pv 0) (pe_gI mW))))), ?_⟩
  cases hw : wholeD d with
  | false =>
    refine SR.fin (sr_ret ((ed_and (d := .none) (c := wholeD d) (ed_call kn (ea_cons (ed_var rfl h1) ea_nil) (by rfl)) fun h => ?_).to ?_)) q
    · rw [hw] at h; cases h
    · rw [hw]
      have : worthD d = false := by
        cases d <;> first | rfl | (simp [wholeD, isD, dTy, tyIs] at hw)
      show PyData.bool false = .bool (worthD d)
      rw [this]
  | true =>
    obtain ⟨i, rfl⟩ := wholeD_int hw
    refine SR.fin (sr_ret ((ed_andB (c := wholeD (.int i)) (ed_call kn (ea_cons (ed_var rfl h1) ea_nil) (by rfl)) fun _ => ed_chain (ed_neg (ed_c (.int _))) (ed_var rfl h1) (ed_c (.int _))).to ?_)) q
    rw [hw]
    rfl
end
end Wr

set_option Elab.async false
set_option linter.all false
set_option maxRecDepth 100000
set_option maxHeartbeats 4000000
namespace Wr
open PySem PySem.Spec PyProof.Rows L2 Evl
theorem hu64 {A : Around} {k : Nat} (hr : Room k A) : A.units + 64 < cLine := hr.units
theorem hu65 {A : Around} {k : Nat} (hr : Room k A) : A.units + 65 < cLine := by have := hr.un; omega
section
variable {K : PySem.W.Frag} {b : List Addr} {σ : L2.St} {H H' : Hp} {ta te : TE} {tt : TT} {d : PyData} {ds : List PyData}
theorem all_map {α : Type} (xs : List α) (g : α → Bool) : (xs.map g).all id = xs.all g := by
  rw [List.all_map]
  rfl
theorem ed_allT {k : Nat} {g : PyData → Bool} (kn : Kn b H) (ha : ED K b ta σ H (.tuple ds)) (hl : ds.length ≤ 1000)
    (he : ∀ d v H3, d ∈ ds → Ex H H3 → Dq K b H3 v d → ED K b te ((wipe σ [k]).set k (some v)) H3 (.bool (g d))) :
    ED K b (tCB (rAll K) (tCons (tLc (iTup K ta) (gName k) tYes te [k]) tNil)) σ H (.bool (ds.all g)) := by
  have h := ed_lcT1 (K := K) (b := b) (k := k) (f := fun d => .bool (g d)) kn ha (Nat.lt_of_le_of_lt hl (by decide)) he fun _ _ => rfl
  have e : ds.map (fun d => PyData.bool (g d)) = (ds.map g).map PyData.bool := by rw [List.map_map]; rfl
  exact (ed_all (h.to (by rw [e]))).to (by rw [all_map])
theorem eqv_int (i j : Int) : PyData.eqv (.int i) (.int j) = (i == j) := by simp only [PyData.eqv]
theorem sh_int (i : Int) : SeqAt.shaped (.int i) = true := by
  show ((PyData.int i).canLay0 && decide ((PyData.int i).depth ≤ 64)) = true
  simp only [PyData.canLay0, PyData.depth]
  rfl
theorem sh_bool (i : Bool) : SeqAt.shaped (.bool i) = true := by
  show ((PyData.bool i).canLay0 && decide ((PyData.bool i).depth ≤ 64)) = true
  simp only [PyData.canLay0, PyData.depth]
  rfl
theorem sh_none : SeqAt.shaped .none = true := by
  show (PyData.none.canLay0 && decide (PyData.none.depth ≤ 64)) = true
  simp only [PyData.canLay0, PyData.depth]
  rfl
theorem strsOf_map (xs : List Str) : strsOf (xs.map PyData.str) = xs := by
  induction xs with
  | nil => rfl
  | cons x r ih =>
    show (x :: strsOf (r.map PyData.str)) = x :: r
    rw [ih]
theorem map_strsOf : ∀ {ds : List PyData}, ds.all (isD "str") = true → (strsOf ds).map PyData.str = ds
  | [], _ => rfl
  | d :: ds, h => by
    rw [List.all_cons, Bool.and_eq_true] at h
    obtain ⟨x, rfl⟩ := isD_str h.1
    show PyData.str x :: (strsOf ds).map PyData.str = .str x :: ds
    rw [map_strsOf h.2]
theorem nameD_str {d : PyData} (h : nameD d = true) : isD "str" d = true := by
  cases d <;> first | rfl | cases h
theorem names_strs {ds : List PyData} (h : ds.all nameD = true) : ds.all (isD "str") = true :=
  List.all_eq_true.mpr fun d hd => nameD_str (List.all_eq_true.mp h d hd)
theorem strsOf_len {ds : List PyData} : (strsOf ds).length ≤ ds.length := List.length_filterMap_le _ _
end
def unlikeD (d : PyData) : Bool := match d with
  | .tuple ds => unlikeS (strsOf ds)
  | .list ds => unlikeS (strsOf ds)
  | _ => false
def StrSeq (d : PyData) : Prop := ∃ xs : List Str, xs.length ≤ 1000 ∧ (d = .list (xs.map PyData.str) ∨ d = .tuple (xs.map PyData.str))
section
variable {P : Program} {w : World} {K : PySem.W.Frag} {mg : Str → Option Value} {base : Heap} {f g g2 g3 : Addr} {fd gd gd2 gd3 : FuncData}
end
end Wr

set_option Elab.async false
set_option linter.all false
set_option maxRecDepth 100000
set_option maxHeartbeats 4000000
namespace Wr
open PySem PySem.Spec PyProof.Rows L2 Evl
section
variable {K : PySem.W.Frag} {b : List Addr} {σ : L2.St} {H H' : Hp} {ta te : TE} {tt : TT} {ts : TS} {d a c : PyData} {ds : List PyData}
theorem sr_unpack2 {i j : Nat} (h : ED K b te σ H (.tuple [a, c])) (k : ∀ v1 v2 H', Ex H H' → Dq K b H' v1 a → Dq K b H' v2 c → SR K b ts ((σ.set i (some v1)).set j (some v2)) H' d) :
    SR K b (tSeq (tAsg te (gTup K 2 (gCons (gName i) (gCons (gName j) gNil)))) ts) σ H d := fun H1 x1 D q =>
  h H1 x1 _ fun v H2 x2 hv => by
    cases hv with
    | tup h1 _ h2 =>
      cases h2 with
      | cons p1 p2 =>
        cases p2 with
        | cons p3 p4 =>
          cases p4
          exact ⟨_, _, rfl, ex_t hid_le h1, rfl, _, _, rfl, _, _, rfl, rfl, k _ _ H2 (x1.trans x2) p1 p3 H2 (Ex.refl H2) D fun z H4 x4 hz => q _ H4 (x2.trans x4) hz⟩
/-- [.. for i, x in enumerate(tuple)], flat items -/
theorem ed_lcE {k1 k2 : Nat} {f : Nat → PyData → PyData} (kn : Kn b H) (ha : ED K b ta σ H (.tuple ds)) (hl : ds.length < sizeLine)
    (hw : ∀ x y, wipe (((wipe σ [k1, k2]).set k1 x).set k2 y) [k1, k2] = wipe σ [k1, k2])
    (he : ∀ i d v H3, ds[i]? = some d → Ex H H3 → Dq K b H3 v d → ED K b te (((wipe σ [k1, k2]).set k1 (some (.int (i : Nat)))).set k2 (some v)) H3 (f i d)) (hf : ∀ i d, ds[i]? = some d → flatP (f i d) = true) :
    ED K b (tLc (iEnumT K (tCons ta tNil)) (gTup K 2 (gCons (gName k1) (gCons (gName k2) gNil))) tYes te [k1, k2]) σ H (.list ((List.range ds.length).map fun i => f i (ds.getD i .none))) := fun H1 x1 Q q =>
  ha H1 x1 _ fun x H2 x2 hx => by
    cases hx with
    | @tup a xs _ h1 _ h2 =>
      have hlen := dps_len h2
      refine ⟨a, xs, rfl, ex_t hid_le h1, fun D hD => ?_⟩
      refine lc_it walk_enumT (fun i H3 => Ex H2 H3 ∧ H3 D = some (.lst (((List.range i).map fun i => f i (ds.getD i .none)).map vOf))) ⟨Ex.new hD, upd_same⟩ (fun i H3 _ h => ex_t h.1 (ex_t hid_le h1)) ?_ ?_
      · intro i x H3 H3' hi ⟨x3, e3⟩ ⟨T, y1, y2, ex, nT, eH, g1, g2⟩
        subst ex eH
        have e1 : y1 = .int (i : Nat) := (Option.some.inj g1).symm
        subst e1
        obtain ⟨d, gd, dd⟩ := dps_at h2 g2
        have xT : Ex H3 (upd H3 T (.tup [.int (i : Nat), y2])) := Ex.new nT
        refine ⟨T, [.int (i : Nat), y2], rfl, .inl (.inl upd_same), rfl, _, _, rfl, _, _, rfl, rfl, hw _ _, ?_⟩
        refine et_yes (H := upd H3 T (.tup [.int (i : Nat), y2])) _ (Ex.refl _) _ fun H4 x4 => ?_
        rw [if_pos rfl]
        have x3' : Ex H2 H4 := (x3.trans xT).trans x4
        refine he i d y2 _ gd ((x1.trans x2).trans x3') (Dq.up dd x3') _ (Ex.refl _) _ fun y H5 x5 hy => ?_
        have ey := dp_flat hy (hf i d gd)
        have hg : ds.getD i .none = d := by rw [List.getD_eq_getElem?_getD, gd, Option.getD_some]
        refine ⟨_, x5 _ _ (x4 _ _ (xT _ _ e3)), ?_, Ex.mut (x3'.trans x5) hD, ?_⟩
        · rw [List.length_map, List.length_map, List.length_range]
          have : xs.length < sizeLine := by rw [hlen]; exact hl
          omega
        · rw [upd_same, List.range_succ, List.map_append, List.map_append, ey]
          show some (HO.lst (_ ++ [vOf (f i d)])) = some (HO.lst (_ ++ [vOf (f i (ds.getD i .none))]))
          rw [hg]
      · intro H3 ⟨x3, e3⟩
        rw [hlen] at e3
        refine q _ H3 (x2.trans x3) (.lst (.inl (.inl ?_)) (flats_dp fun d hd => ?_))
        · rw [hid_ne ((kn.up (x1.trans x2)).new hD)]
          exact e3
        · obtain ⟨i, hi, rfl⟩ := List.mem_map.mp hd
          have hi' := List.mem_range.mp hi
          have g1 : ds[i]? = some ds[i] := List.getElem?_eq_getElem hi'
          have := hf i _ g1
          simp only [List.getD_eq_getElem?_getD, g1, Option.getD_some]
          exact this
theorem atI0 {α : Type} (x : α) (r : List α) : atI (x :: r) 0 = some x := atI_nat (j := 0) rfl
theorem atI1 {α : Type} (x y : α) (r : List α) : atI (x :: y :: r) 1 = some y := atI_nat (j := 1) rfl
theorem atI2 {α : Type} (x y z : α) (r : List α) : atI (x :: y :: z :: r) 2 = some z := atI_nat (j := 2) rfl
theorem sh_str {x : Str} (h : PyData.strOk x = true) : SeqAt.shaped (.str x) = true := by
  show ((PyData.str x).canLay0 && decide ((PyData.str x).depth ≤ 64)) = true
  simp only [PyData.canLay0, PyData.depth, h]
  rfl
theorem sh_strs {xs : List Str} (h : xs.all PyData.strOk = true) : SeqAt.shaped (.tuple (xs.map .str)) = true ∧ SeqAt.shaped (.list (xs.map .str)) = true := by
  have h1 : PyData.canLayAll0 (xs.map .str) = true := lay_all fun d hd => by
    obtain ⟨x, hx, rfl⟩ := List.mem_map.mp hd
    simp only [PyData.canLay0]
    exact List.all_eq_true.mp h x hx
  have h2 : PyData.depthAll (xs.map .str) ≤ 0 := depth_all fun d hd => by
    obtain ⟨x, hx, rfl⟩ := List.mem_map.mp hd
    simp only [PyData.depth]
    exact Nat.le_refl 0
  constructor
  · show ((PyData.tuple _).canLay0 && decide ((PyData.tuple _).depth ≤ 64)) = true
    simp only [PyData.canLay0, PyData.depth, h1, Bool.true_and]
    exact decide_eq_true (by omega)
  · show ((PyData.list _).canLay0 && decide ((PyData.list _).depth ≤ 64)) = true
    simp only [PyData.canLay0, PyData.depth, h1, Bool.true_and]
    exact decide_eq_true (by omega)
end
section
variable {P : Program} {w : World} {K : PySem.W.Frag} {mg : Str → Option Value} {base : Heap} {f g g2 g3 g4 g5 : Addr} {fd gd gd2 gd3 gd4 gd5 : FuncData}
theorem headed_fst {d : PyData} (h : headedD d = true) : ∃ a c e, d = .tuple [a, c, e] ∧ nameD a = true ∧ namesD c = true := by
  unfold headedD at h
  split at h
  · rename_i a c e
    rw [Bool.and_eq_true] at h
    exact ⟨a, c, e, rfl, h.1, h.2⟩
  · cases h
end
end Wr

set_option Elab.async false
set_option linter.all false
set_option maxRecDepth 100000
set_option maxHeartbeats 4000000
namespace Wr
open PySem PySem.Spec PyProof.Rows L2 Evl
/-- the text's written tuples -/
structure Words (K : PySem.W.Frag) (mg : Str → Option Value) (aN aR aL : Addr) : Prop where
  mN : mg "NAME_WORDS" = some (.ref aN)
  mR : mg "ROW_WORDS" = some (.ref aR)
  mL : mg "LONE_WORDS" = some (.ref aL)
  kN : ∀ H, SqT K H aN (nameW.map V.str) ∧ TN K H aN
  kR : ∀ H, SqT K H aR (rowW.map V.str) ∧ TN K H aR
  kL : ∀ H, SqT K H aL (loneW.map V.str) ∧ TN K H aL
def rowF (ds : List PyData) : PyData := match ds with
  | [d, i, m, .list cs] => .bool (rowD d (intOf i) (intOf m) (strsOf cs))
  | _ => .none
def RowPre (ds : List PyData) : Prop := ds.length = 4 ∧ ∀ d i m c, ds = [d, i, m, c] → okD 30 d = true ∧ (∃ k, i = .int k) ∧ (∃ k, m = .int k) ∧ ∃ xs : List Str, xs.all PyData.strOk = true ∧ c = .list (xs.map .str)
theorem rowD_two (a c : PyData) (i m : Int) (xs : List Str) : rowD (.tuple [a, c]) i m xs = (if PyData.eqv a (.str "put") = true then worthD c
    else if inD a (nameW.map .str) = true then nameD c
    else if PyData.eqv a (.str "call") = true then inD c (xs.map .str)
    else inD a (rowW.map .str) && (indexD c m && !(PyData.eqv a (.str "try") && PyData.eqv c (.int (i + 1))))) := rfl
theorem strOk_words : (loneW ++ nameW ++ rowW).all PyData.strOk = true := by decide +kernel
theorem sh_lone : SeqAt.shaped (.tuple (loneW.map .str)) = true := (sh_strs (by decide +kernel)).1
theorem sh_nameW : SeqAt.shaped (.tuple (nameW.map .str)) = true := (sh_strs (by decide +kernel)).1
theorem sh_rowW : SeqAt.shaped (.tuple (rowW.map .str)) = true := (sh_strs (by decide +kernel)).1
theorem sh_put : SeqAt.shaped (.str "put") = true := sh_str (by decide +kernel)
theorem sh_call : SeqAt.shaped (.str "call") = true := sh_str (by decide +kernel)
theorem sh_try : SeqAt.shaped (.str "try") = true := sh_str (by decide +kernel)
section
variable {P : Program} {w : World} {K : PySem.W.Frag} {mg : Str → Option Value} {base : Heap} {f g g2 g3 g4 g5 aN aR aL : Addr} {fd gd gd2 gd3 gd4 gd5 : FuncData}
theorem ed_words {b : List Addr} {σ : L2.St} {H : Hp} {a : Addr} {xs : List Str} (h : ∀ H, SqT K H a (xs.map V.str) ∧ TN K H a) : ED K b (tC (.ref a)) σ H (.tuple (xs.map .str)) := ed_c (.tup (h _).1 (h _).2 (strs_dps xs))
def RowsPre (ds : List PyData) : Prop := ds.length = 2 ∧ ∀ d c, ds = [d, c] → okD 30 d = true ∧ ∃ xs : List Str, xs.all PyData.strOk = true ∧ c = .list (xs.map .str)
def rowsF (ds : List PyData) : PyData := match ds with
  | [d, .list cs] => .bool (rowsD d (strsOf cs))
  | _ => .none
theorem name_strOk {x : Str} (h : nameS x = true) : PyData.strOk x = true := by
  unfold nameS at h
  rw [Bool.and_eq_true, Bool.and_eq_true] at h
  have h2 : x.cps.all (· < 128) = true := h.2.1
  show x.cps.all (· < 0x110000) = true
  rw [Array.all_eq_true] at h2 ⊢
  intro i hi
  have := of_decide_eq_true (h2 i hi)
  exact decide_eq_true (by omega)
def ProgPre (ds : List PyData) : Prop := ds.length = 1 ∧ ∀ d, ds = [d] → okD 30 d = true
end
end Wr

set_option Elab.async false
set_option linter.all false
set_option maxRecDepth 100000
set_option maxHeartbeats 4000000
namespace Wr
open PySem PySem.Spec PyProof.Rows L2 Evl
/-! ### a method of a tuple -/
def tBMT (K : PySem.W.Frag) (r : V → List V → Hp → VK → Prop) (to : TE) (t : TA) : TE := fun σ H Q => to σ H fun x H1 => (∃ a xs, x = .ref a ∧ SqT K H1 a xs ∧ TN K H1 a) ∧ t σ H1 fun xs H2 => r x xs H2 Q
theorem tn_is {X : Cx} {pins : List (Addr × Obj)} {σ : L2.St} {H : Hp} {s : Shared} {a : Addr} (I : Inv X pins σ H s) (h : TN X.K H a) : ∃ o, s.heap.get? a = some o ∧ o.dict = none := by
  rcases h with ⟨o, u, h1, h2⟩ | ⟨o, h1, _, h2⟩
  · exact ⟨o, (I.hok a _ h1).1, h2⟩
  · exact ⟨o, I.kIn a o h1, h2⟩
theorem pe_bmT {X : Cx} {o e : Expr} {es : List Expr} {to : TE} {t : TA} {name : Str} {id : String} {apos cpos : Pos} {r : V → List V → Hp → VK → Prop} (slot : Slot "tuple" name id) (hty : typeOf (.builtin id) = pure (.type "method_descriptor")) (hm : MtR X id r) (ho : PE X o to) (ha : PA X (e :: es) t)
    (hbase : attributeBase o name X.env (eval o X.env) = eval o X.env := by rfl)
    (hfew : ((backTo cpos (starEach (e :: es) X.env)).all (fun x => !x.1) && (backToKw cpos (keywordEach [] X.env)).all (fun x => x.1.isSome) && decide ((e :: es).length + ([] : List Keyword).length + (if ([] : List Keyword).isEmpty then 0 else 1) < 30)) = true := by rfl)
    (hline : (apos.endLine == cpos.line) = true := by rfl) (hs : starEach (e :: es) X.env = (false, eval e X.env) :: starEach es X.env := by rfl) (hplain : (backTo cpos (starEach es X.env)).any (·.1) = false := by rfl) :
    PE X (.Call (.Attribute o name apos) (e :: es) [] cpos) (tBMT X.K r to t) := by
  refine ⟨fun pins s σ H Q I h => ?_⟩
  refine wpAny_Call_method_late hbase hfew hline rfl (thn (ho.run pins s σ H _ I h) fun v s1 ⟨x, H1, I1, r1, ty, q1⟩ => ?_)
  obtain ⟨a, xs, rfl, hq, hn⟩ := ty
  cases r1
  obtain ⟨its, rv, p, _⟩ := I1.tuple hq
  refine ⟨"tuple", id, PySem.F.plainAttrs_tuple, slot, hty, p.typeIs, fun b e => ?_, ?_⟩
  · cases e
    exact tn_is I1 hn
  · have hA := ha.run cpos pins s1 σ H1 _ I1 q1
    rw [hs] at hA ⊢
    refine Calls.callWith_builtin (by show (false || (backTo cpos (starEach es X.env)).any (·.1)) = false; rw [hplain] <;> rfl) (Calls.evalArgs_plain ?_)
    exact thn hA fun us s2 ⟨vs, H2, I2, r2, q2⟩ => hm pins s2 σ H2 (.ref a) vs (.ref a) us Q I2 rfl r2 q2
/-! ### count -/
def countD (d : PyData) (ds : List PyData) : Nat := ds.countP fun z => PyData.eqv z d
def rCountT (K : PySem.W.Frag) : V → List V → Hp → VK → Prop := fun x xs H Q => ∃ y d ds, xs = [y] ∧ Dp K H x (.tuple ds) ∧ Dp K H y d ∧ SeqAt.shaped (.tuple ds) = true ∧ SeqAt.shaped d = true ∧ Q (.int (countD d ds : Nat)) H
def rCountL (K : PySem.W.Frag) : V → List V → Hp → VK → Prop := fun x xs H Q => ∃ y d ds, xs = [y] ∧ Dp K H x (.list ds) ∧ Dp K H y d ∧ SeqAt.shaped (.list ds) = true ∧ SeqAt.shaped d = true ∧ Q (.int (countD d ds : Nat)) H
theorem count_map {h : Heap} {its : List Value} {ds : List PyData} {d : PyData} (hm : its.map (SeqAt.readOf h) = ds) : its.countP (fun u => PyData.eqv (SeqAt.readOf h u) d) = countD d ds := by
  unfold countD
  rw [← hm, List.countP_map]
  rfl
theorem mt_countT {X : Cx} (hu : X.A.units + 65 < cLine) : MtR X "tuple.count" (rCountT X.K) := by
  intro pins s σ H x xs v us Q I rx rxs ⟨y, d, ds, e1, hl, hy, sl, sd, q⟩
  subst e1
  obtain ⟨uy, rfl, ry⟩ := vals1 rxs
  obtain ⟨bs, r1⟩ := Dp.reads I d y uy hy ry
  have hxs : PyData.canLayAll0 ds = true := by
    have := SeqAt.canLay_of_shaped sl
    simpa only [PyData.canLay0] using this
  have hroom : X.A.units + 1 + min (PyData.depthAll ds) d.depth < cLine := room_in_shaped sd hu
  cases hl with
  | tup hs ha =>
    cases rx
    obtain ⟨its, rv, ⟨⟨cls, dd, data, sls⟩, ho, hc, n, hd⟩, hlen⟩ := I.tuple hs
    simp only at hc hd
    subst hc hd
    obtain ⟨as, h4⟩ := Dp.readsAll I ds _ its ha rv
    have hm := SeqAt.readsAll_map ds its as hxs h4
    refine call_meets PySem.F.slot_tuple_count ⟨_, ho, rfl⟩ PySem.F.entry_tuple_count (PySem.F.args_tuple_count_2 _ _)
      (SeqAt.tuple_countAt _ its.toArray n dd sls uy fun u => PyData.eqv (SeqAt.readOf s.heap u) d) ⟨ho, SeqAt.items_eqAt (vs := its.toArray) h4 r1 hxs (SeqAt.canLay_of_shaped sd) hroom, ?_⟩
    refine ⟨.int (countD d ds : Nat), H, I.tok _, ⟨s.toks, ?_⟩, q⟩
    rw [List.toList_toArray, count_map hm]
theorem mt_countL {X : Cx} (hu : X.A.units + 65 < cLine) : MtR X "list.count" (rCountL X.K) := by
  intro pins s σ H x xs v us Q I rx rxs ⟨y, d, ds, e1, hl, hy, sl, sd, q⟩
  subst e1
  obtain ⟨uy, rfl, ry⟩ := vals1 rxs
  obtain ⟨bs, r1⟩ := Dp.reads I d y uy hy ry
  have hxs : PyData.canLayAll0 ds = true := by
    have := SeqAt.canLay_of_shaped sl
    simpa only [PyData.canLay0] using this
  have hroom : X.A.units + 1 + min (PyData.depthAll ds) d.depth < cLine := room_in_shaped sd hu
  cases hl with
  | lst hs ha =>
    cases rx
    obtain ⟨its, rv, ⟨⟨cls, dd, data, sls⟩, n, ho, hc, hdn, hd⟩, hlen⟩ := I.list hs
    simp only at hc hd
    subst hc hd
    obtain ⟨as, h4⟩ := Dp.readsAll I ds _ its ha rv
    have hm := SeqAt.readsAll_map ds its as hxs h4
    refine call_meets PySem.F.slot_list_count ⟨_, ho, rfl⟩ PySem.F.entry_list_count (PySem.F.args_list_count_2 _ _)
      (SeqAt.list_countAt _ its.toArray n dd sls uy fun u => PyData.eqv (SeqAt.readOf s.heap u) d) ⟨ho, SeqAt.items_eqAt (vs := its.toArray) h4 r1 hxs (SeqAt.canLay_of_shaped sd) hroom, ?_⟩
    refine ⟨.int (countD d ds : Nat), H, I.tok _, ⟨s.toks, ?_⟩, q⟩
    rw [List.toList_toArray, count_map hm]
/-! ### not in range -/
def rNinR : R2 := fun x y H Q => ∃ i a lo hi, x = V.int i ∧ y = V.ref a ∧ H a = some (.rng lo hi) ∧ Q (.bl (!decide (lo ≤ i ∧ i < hi))) H
theorem op_ninR {X : Cx} : OpR X (compareOp .NotIn) rNinR := by
  intro pins s σ H x y v u Q I rx ry ⟨i, a, lo, hi, e1, e2, ha, q⟩
  subst e1 e2
  obtain ⟨k, rfl⟩ := rx
  obtain rfl : u = Value.ref a := ry
  obtain ⟨t1, t2, t3, ho⟩ := I.hok a _ ha
  show wpAny _ _ (do return Value.bool (!(← contains (Value.ref a) (Value.int i k)))) _ _ s
  refine wpAny_bind (wpAny_contains_slot (T := "range") ⟨_, ho, rfl⟩ PySem.F.slot_range_contains (call_meets PySem.F.slot_range_contains ⟨_, ho, rfl⟩ PySem.F.entry_range_contains
    (PySem.F.args_range_contains_2 _ _) (q_contains a lo hi i t1 t2 t3 k) ⟨ho, wpAny_truthy_bool (wpAny_pure ⟨.bl _, H, I, rfl, ?_⟩)⟩))
  rw [place1]
  exact q
section
variable {K : PySem.W.Frag} {b : List Addr} {σ : L2.St} {H H' : Hp} {ta tb te : TE} {tt : TT} {ts : TS} {d a c e : PyData} {ds : List PyData}
theorem ed_countT (ha : ED K b ta σ H (.tuple ds)) (hb : ED K b tb σ H d) (sl : SeqAt.shaped (.tuple ds) = true) (sd : SeqAt.shaped d = true) : ED K b (tBMT K (rCountT K) ta (tCons tb tNil)) σ H (.int (countD d ds : Nat)) := fun H1 x1 Q q =>
  ha H1 x1 _ fun x H2 x2 hx => by
    have hx' := hx
    cases hx' with
    | tup h1 hn _ =>
      exact ⟨⟨_, _, rfl, ex_t hid_le h1, hn.ex hid_le⟩, hb H2 (x1.trans x2) _ fun y H3 x3 hy => ⟨y, d, ds, rfl, (Dq.up hx x3).dp, hy.dp, sl, sd, q _ H3 (x2.trans x3) (.int _)⟩⟩
theorem ed_countL (ha : ED K b ta σ H (.list ds)) (hb : ED K b tb σ H d) (sl : SeqAt.shaped (.list ds) = true) (sd : SeqAt.shaped d = true) : ED K b (tBM K "list" (rCountL K) ta (tCons tb tNil)) σ H (.int (countD d ds : Nat)) := fun H1 x1 Q q =>
  ha H1 x1 _ fun x H2 x2 hx => by
    have hx' := hx
    cases hx' with
    | lst h1 _ =>
      exact ⟨.inl ⟨rfl, _, ex_l hid_le h1⟩, hb H2 (x1.trans x2) _ fun y H3 x3 hy => ⟨y, d, ds, rfl, (Dq.up hx x3).dp, hy.dp, sl, sd, q _ H3 (x2.trans x3) (.int _)⟩⟩
theorem sr_unpack3 {i j k : Nat} (h : ED K b te σ H (.tuple [a, c, e])) (kk : ∀ v1 v2 v3 H', Ex H H' → Dq K b H' v1 a → Dq K b H' v2 c → Dq K b H' v3 e → SR K b ts (((σ.set i (some v1)).set j (some v2)).set k (some v3)) H' d) :
    SR K b (tSeq (tAsg te (gTup K 3 (gCons (gName i) (gCons (gName j) (gCons (gName k) gNil))))) ts) σ H d := fun H1 x1 D q =>
  h H1 x1 _ fun v H2 x2 hv => by
    cases hv with
    | tup h1 _ h2 =>
      cases h2 with
      | cons p1 p2 =>
        cases p2 with
        | cons p3 p4 =>
          cases p4 with
          | cons p5 p6 =>
            cases p6
            exact ⟨_, _, rfl, ex_t hid_le h1, rfl, _, _, rfl, _, _, rfl, _, _, rfl, rfl, kk _ _ _ H2 (x1.trans x2) p1 p3 p5 H2 (Ex.refl H2) D fun z H4 x4 hz => q _ H4 (x2.trans x4) hz⟩
/-- one sign in a written text -/
def rInSg : R2 := fun x y H Q => ∃ (c : Nat) (z : Str), x = .str ⟨#[c]⟩ ∧ y = .str z ∧ Q (.bl (decide (c ∈ z.cps.toList))) H
theorem op_inSg {X : Cx} : OpR X (compareOp .In) rInSg := op_in_sign
theorem ed_inSg {c : Nat} {z : Str} (ha : ED K b ta σ H (.str ⟨#[c]⟩)) (hb : ED K b tb σ H (.str z)) : ED K b (tOp rInSg ta tb) σ H (.bool (decide (c ∈ z.cps.toList))) :=
  ed_op ha hb fun H1 x y Q _ hx hy q => ⟨c, z, dq_str hx, dq_str hy, q _ H1 (Ex.refl H1) (.bl _)⟩
/-- sep.join(texts) -/
def rJoin (K : PySem.W.Frag) : V → List V → Hp → VK → Prop := fun x xs H Q => ∃ a p, ∃ ys : List Str, x = .str a ∧ xs = [.ref p] ∧ (SqL K H p (ys.map V.str) ∨ SqT K H p (ys.map V.str)) ∧ (ys.map (·.length)).sum + ys.length * a.length ≤ 16777216 ∧ Q (.str (Txt.join a ys)) H
theorem mt_joinD {X : Cx} : MtR X "str.join" (rJoin X.K) := mt_join
theorem ed_join {z : Str} {ys : List Str} (ha : ED K b ta σ H (.str z)) (hb : ED K b tb σ H (.list (ys.map PyData.str))) (hl : (ys.map (·.length)).sum + ys.length * z.length ≤ 16777216) : ED K b (tBM K "str" (rJoin K) ta (tCons tb tNil)) σ H (.str (Txt.join z ys)) := fun H1 x1 Q q =>
  ha H1 x1 _ fun x H2 x2 hx => by
    cases hx
    refine ⟨rfl, hb H2 (x1.trans x2) _ fun y H3 x3 hy => ?_⟩
    have hy' := hy.dd
    cases hy' with
    | lst h1 h2 =>
      rw [dps_strs h2] at h1
      exact ⟨z, _, ys, rfl, rfl, .inl h1, hl, q _ H3 (x2.trans x3) (.str _)⟩
/-- text.split(sep) -/
def rSplit : V → List V → Hp → VK → Prop := fun x xs H Q => ∃ a b, x = .str a ∧ xs = [.str b] ∧ (b.length == 0) = false ∧ a.length + 2 ≤ sizeLine ∧ rNewStrs (Txt.split a b) H Q
theorem mt_splitD {X : Cx} : MtR X "str.split" rSplit := mt_split
theorem ed_split {z y : Str} (kn : Kn b H) (ha : ED K b ta σ H (.str z)) (hb : ED K b tb σ H (.str y)) (hy : (y.length == 0) = false) (hl : z.length + 2 ≤ sizeLine) : ED K b (tBM K "str" rSplit ta (tCons tb tNil)) σ H (.list ((Txt.split z y).map PyData.str)) := fun H1 x1 Q q =>
  ha H1 x1 _ fun x H2 x2 hx => by
    cases hx
    refine ⟨rfl, hb H2 (x1.trans x2) _ fun v H3 x3 hv => ?_⟩
    cases hv
    exact ⟨z, y, rfl, rfl, hy, hl, fun p hp => q _ _ ((x2.trans x3).trans (Ex.new hp)) (.lst (.inl (.inl (hid_new ((kn.up ((x1.trans x2).trans x3)).new hp)))) (strs_dps _))⟩
/-- len(..) not in range(lo, hi) -/
theorem ed_ninR {i lo hi : Int} {tlo thi : TE} (ha : ED K b ta σ H (.int i)) (h1 : ED K b tlo σ H (.int lo)) (h2 : ED K b thi σ H (.int hi)) :
    ED K b (tOp rNinR ta (tCB (fun vs H Q => ∃ i j, vs = [V.int i, V.int j] ∧ ∀ p, H p = none → Q (.ref p) (upd H p (.rng i j))) (tCons tlo (tCons thi tNil)))) σ H (.bool (!decide (lo ≤ i ∧ i < hi))) := fun H1 x1 Q q =>
  ha H1 x1 _ fun x H2 x2 hx => h1 H2 (x1.trans x2) _ fun y H3 x3 hy => h2 H3 ((x1.trans x2).trans x3) _ fun z H4 x4 hz => ⟨lo, hi, by rw [dq_int hy, dq_int hz], fun p hp =>
    ⟨i, p, lo, hi, dq_int hx, rfl, upd_same, q _ _ (((x2.trans x3).trans x4).trans (Ex.new hp)) (.bl _)⟩⟩
end
end Wr

set_option Elab.async false
set_option linter.all false
set_option maxRecDepth 100000
set_option maxHeartbeats 4000000
namespace Wr
open PySem PySem.Spec PyProof.Rows L2 Evl
/-! ### a heap that grows but for the bag at a -/
def ExB (a : Addr) (H H' : Hp) : Prop := ∀ c o, c ≠ a → H c = some o → H' c = some o
theorem ExB.refl (a : Addr) (H : Hp) : ExB a H H := fun _ _ _ h => h
theorem ExB.trans {a : Addr} {H H1 H2 : Hp} (x : ExB a H H1) (y : ExB a H1 H2) : ExB a H H2 := fun c o n h => y c o n (x c o n h)
theorem exb {a : Addr} {H H1 : Hp} (x : Ex H H1) : ExB a H H1 := fun c o _ h => x c o h
theorem hid_exB {b : List Addr} {a : Addr} {H H' : Hp} (ha : a ∈ b) (e : ExB a H H') : Ex (hid b H) (hid b H') := fun c o h => by
  obtain ⟨h1, h2⟩ := hid_some h
  rw [hid_ne h1]
  exact e c o (fun z => h1 (z ▸ ha)) h2
theorem Dq.upB {K : PySem.W.Frag} {b : List Addr} {a : Addr} {H H' : Hp} {v : V} {d : PyData} (ha : a ∈ b) (h : Dq K b H v d) (e : ExB a H H') : Dq K b H' v d := dp_ex (hid_exB ha e) d v h
theorem DqAll.upB {K : PySem.W.Frag} {b : List Addr} {a : Addr} {H H' : Hp} {vs : List V} {ds : List PyData} (ha : a ∈ b) (h : DqAll K b H vs ds) (e : ExB a H H') : DqAll K b H' vs ds := dps_ex (hid_exB ha e) ds vs h
/-- the bag at a: the digits that are left, and what is mixed -/
def Bag (a : Addr) (_ : Nat) (H : Hp) : Prop := ∃ g x : Int, H a = some (.lst [.int g, .int x]) ∧ 0 ≤ g ∧ 0 ≤ x ∧ x < 2147483648
theorem Bag.any {a : Addr} {n m : Nat} {H : Hp} (h : Bag a n H) : Bag a m H := h
theorem Bag.le {a : Addr} {n m : Nat} {H : Hp} (h : Bag a n H) (_ : m ≤ n) : Bag a m H := h
theorem Bag.ex {a : Addr} {n : Nat} {H H' : Hp} (h : Bag a n H) (e : Ex H H') : Bag a n H' := by
  obtain ⟨g, x, h1, r⟩ := h
  exact ⟨g, x, e _ _ h1, r⟩
theorem Bag.there {a : Addr} {n : Nat} {H : Hp} (h : Bag a n H) : H a ≠ none := by
  obtain ⟨g, x, h1, _⟩ := h
  rw [h1]
  intro z
  cases z
theorem Bag.kn {a : Addr} {n : Nat} {H : Hp} (h : Bag a n H) : Kn [a] H := fun c hc => by
  rw [List.mem_singleton.mp hc]
  exact h.there
theorem ExB.kn {a : Addr} {n : Nat} {b : List Addr} {H H' : Hp} (k : Kn b H) (x : ExB a H H') (h : Bag a n H') : Kn b H' := fun c hc z => by
  by_cases e : c = a
  · subst e
    exact h.there z
  · cases q : H c with
    | none => exact k c hc q
    | some o =>
      rw [x c o e q] at z
      cases z
/-! ### what is evaluated while things are taken from the bag -/
section
variable (K : PySem.W.Frag) (b : List Addr) (a : Addr) (n m : Nat)
def EG (te : TE) (σ : L2.St) (H : Hp) (P : PyData → Prop) : Prop := ∀ H1, ExB a H H1 → Kn b H1 → Bag a n H1 → ∀ Q : VK, (∀ v d H2, ExB a H1 H2 → Bag a m H2 → Dq K b H2 v d → P d → Q v H2) → te σ H1 Q
def EGA (ta : TA) (σ : L2.St) (H : Hp) (P : List PyData → Prop) : Prop := ∀ H1, ExB a H H1 → Kn b H1 → Bag a n H1 → ∀ Q : List V → Hp → Prop, (∀ vs ds H2, ExB a H1 H2 → Bag a m H2 → DqAll K b H2 vs ds → P ds → Q vs H2) → ta σ H1 Q
def GS (ts : TS) (σ : L2.St) (H : Hp) (P : PyData → Prop) : Prop := ∀ H1, ExB a H H1 → Kn b H1 → Bag a n H1 → ∀ D : Ends, (∀ v d H2, ExB a H1 H2 → Bag a m H2 → Dq K b H2 v d → P d → D.rt v H2) → ts D σ H1
end
theorem EG.any {K : PySem.W.Frag} {b : List Addr} {a : Addr} {n m n' m' : Nat} {te : TE} {σ : L2.St} {H : Hp} {P : PyData → Prop} (h : EG K b a n m te σ H P) : EG K b a n' m' te σ H P := h
theorem EGA.any {K : PySem.W.Frag} {b : List Addr} {a : Addr} {n m n' m' : Nat} {te : TA} {σ : L2.St} {H : Hp} {P : List PyData → Prop} (h : EGA K b a n m te σ H P) : EGA K b a n' m' te σ H P := h
theorem GS.any {K : PySem.W.Frag} {b : List Addr} {a : Addr} {n m n' m' : Nat} {te : TS} {σ : L2.St} {H : Hp} {P : PyData → Prop} (h : GS K b a n m te σ H P) : GS K b a n' m' te σ H P := h
def spG (K : PySem.W.Frag) (n : Nat) (pre : List PyData → Prop) (P : List PyData → PyData → Prop) : Sp := fun vs H Q _ =>
  ∃ b a k ws ds, vs = .ref a :: ws ∧ a ∈ b ∧ Kn b H ∧ Bag a (k + n) H ∧ DqAll K b H ws ds ∧ pre ds ∧ ∀ v d H', ExB a H H' → Bag a k H' → Dq K b H' v d → P ds d → Q v H'
section
variable {K : PySem.W.Frag} {b : List Addr} {a : Addr} {n m k : Nat} {σ : L2.St} {H H' : Hp} {ta tb te : TE} {t : TA} {tt : TT} {ts t1 t2 : TS} {P P' : PyData → Prop} {d : PyData}
theorem EG.imp (h : EG K b a n m te σ H P) (hp : ∀ d, P d → P' d) : EG K b a n m te σ H P' := fun H1 x1 kn bg Q q => h H1 x1 kn bg Q fun v d H2 x2 b2 hv p => q v d H2 x2 b2 hv (hp d p)
theorem EG.mono (x : ExB a H H') (h : EG K b a n m te σ H P) : EG K b a n m te σ H' P := fun H1 x1 => h H1 (x.trans x1)
theorem EG.le {m' : Nat} (h : EG K b a n m te σ H P) (hm : m' ≤ m) : EG K b a n m' te σ H P := fun H1 x1 kn bg Q q => h H1 x1 kn bg Q fun v d H2 x2 b2 hv p => q v d H2 x2 (b2.le hm) hv p
theorem eg_pure (h : ∀ H1, ExB a H H1 → Kn b H1 → ED K b te σ H1 d) (p : P d) : EG K b a n n te σ H P := fun H1 x1 kn bg Q q => h H1 x1 kn H1 (Ex.refl H1) Q fun v H2 x2 hv => q v d H2 (exb x2) (bg.ex x2) hv p
theorem eg_var {i : Nat} {v : V} (hv : σ[i]? = some (some v)) (ha : a ∈ b) (hd : Dq K b H v d) (p : P d) : EG K b a n n (tVar i) σ H P := eg_pure (fun H1 x1 _ => ed_var hv (hd.upB ha x1)) p
theorem ega_nil : EGA K b a n n tNil σ H (· = []) := fun H1 x1 kn bg Q q => q [] [] H1 (ExB.refl a H1) bg .nil rfl
theorem ega_cons {R : List PyData → Prop} (ha : a ∈ b) (h1 : EG K b a n k ta σ H P) (h2 : EGA K b a k m t σ H R) : EGA K b a n m (tCons ta t) σ H (fun ds => ∃ d r, ds = d :: r ∧ P d ∧ R r) := fun H1 x1 kn bg Q q =>
  h1 H1 x1 kn bg _ fun v d H2 x2 b2 hv p => h2 H2 (x1.trans x2) (x2.kn kn b2) b2 _ fun vs ds H3 x3 b3 hvs r => q _ (d :: ds) H3 (x2.trans x3) b3 (.cons (hv.upB ha x3) hvs) ⟨d, ds, rfl, p, r⟩
/-- a call of a def that takes from the bag -/
theorem eg_call {c : Nat} {pre : List PyData → Prop} {R : List PyData → PyData → Prop} {S : List PyData → Prop} {E : XK} {i : Nat} (ha : a ∈ b) (hb : σ[i]? = some (some (.ref a))) (hargs : EGA K b a n (m + c) t σ H S) (hp : ∀ ds, S ds → pre ds) (hr : ∀ ds d, S ds → R ds d → P d) :
    EG K b a n m (tCall (spG K c pre R) [] E (tCons (tVar i) t)) σ H P := fun H1 x1 kn bg Q q =>
  ⟨.ref a, hb, hargs H1 x1 kn bg _ fun vs ds H2 x2 b2 hvs s => ⟨b, a, m, vs, ds, by rw [List.append_nil], ha, x2.kn kn b2, b2, hvs, hp ds s, fun v d H3 x3 b3 hv r => q v d H3 (x2.trans x3) b3 hv (hr ds d s r)⟩⟩
theorem gs_ret (h : EG K b a n m te σ H P) : GS K b a n m (tRet te) σ H P := fun H1 x1 kn bg D q => h H1 x1 kn bg _ q
theorem gs_if {c : Bool} (hc : ∀ H1, ExB a H H1 → Kn b H1 → EvT tt σ H1 c) (h1 : c = true → GS K b a n m t1 σ H P) (h2 : c = false → GS K b a n m t2 σ H P) : GS K b a n m (tSeq (tIfS tt t1 tNext) t2) σ H P := fun H1 x1 kn bg D q =>
  hc H1 x1 kn H1 (Ex.refl H1) _ fun H2 x2 => by
    cases c with
    | true =>
      rw [if_pos rfl]
      exact h1 rfl H2 (x1.trans (exb x2)) (kn.up x2) (bg.ex x2) _ fun v d H3 x3 b3 hv p => q v d H3 ((exb x2).trans x3) b3 hv p
    | false =>
      rw [if_neg Bool.false_ne_true]
      exact h2 rfl H2 (x1.trans (exb x2)) (kn.up x2) (bg.ex x2) _ fun v d H3 x3 b3 hv p => q v d H3 ((exb x2).trans x3) b3 hv p
theorem gs_set {i : Nat} {P1 : PyData → Prop} (h : EG K b a n k te σ H P1) (kk : ∀ v d H', ExB a H H' → Dq K b H' v d → P1 d → GS K b a k m ts (σ.set i (some v)) H' P) : GS K b a n m (tSeq (tAsg te (gName i)) ts) σ H P := fun H1 x1 kn bg D q =>
  h H1 x1 kn bg _ fun v d H2 x2 b2 hv p => kk v d H2 (x1.trans x2) hv p H2 (ExB.refl a H2) (x2.kn kn b2) b2 D fun v' d' H3 x3 b3 hv' p' => q v' d' H3 (x2.trans x3) b3 hv' p'
/-- a conditional expression whose test is pure -/
theorem eg_if {c : Bool} (hc : ∀ H1, ExB a H H1 → Kn b H1 → EvT tt σ H1 c) (h1 : c = true → EG K b a n m ta σ H P) (h2 : c = false → EG K b a n m tb σ H P) : EG K b a n m (tIf tt ta tb) σ H P := fun H1 x1 kn bg Q q =>
  hc H1 x1 kn H1 (Ex.refl H1) _ fun H2 x2 => by
    cases c with
    | true =>
      rw [if_pos rfl]
      exact h1 rfl H2 (x1.trans (exb x2)) (kn.up x2) (bg.ex x2) _ fun v d H3 x3 b3 hv p => q v d H3 ((exb x2).trans x3) b3 hv p
    | false =>
      rw [if_neg Bool.false_ne_true]
      exact h2 rfl H2 (x1.trans (exb x2)) (kn.up x2) (bg.ex x2) _ fun v d H3 x3 b3 hv p => q v d H3 ((exb x2).trans x3) b3 hv p
/-- two operands, the operation pure on their data -/
theorem eg_op {r : R2} {P1 P2 : PyData → Prop} (ha : a ∈ b) (h1 : EG K b a n k ta σ H P1) (h2 : EG K b a k m tb σ H P2) (hr : ∀ d e H1 x y (Q : VK), P1 d → P2 e → ExB a H H1 → Kn b H1 → Dq K b H1 x d → Dq K b H1 y e → (∀ v z H2, Ex H1 H2 → Dq K b H2 v z → P z → Q v H2) → r x y H1 Q) : EG K b a n m (tOp r ta tb) σ H P := fun H1 x1 kn bg Q q =>
  h1 H1 x1 kn bg _ fun v d H2 x2 b2 hv p1 => h2 H2 (x1.trans x2) (x2.kn kn b2) b2 _ fun w e H3 x3 b3 hw p2 =>
    hr d e H3 v w Q p1 p2 ((x1.trans x2).trans x3) (x3.kn (x2.kn kn b2) b3) (hv.upB ha x3) hw fun u z H4 x4 hu p => q u z H4 ((x2.trans x3).trans (exb x4)) (b3.ex x4) hu p
/-- a new tuple of what is evaluated -/
theorem eg_tup {R : List PyData → Prop} (h : EGA K b a n m t σ H R) (hl : ∀ ds, R ds → ds.length ≤ sizeLine ∧ P (.tuple ds)) : EG K b a n m (tTupF t) σ H P := fun H1 x1 kn bg Q q =>
  h H1 x1 kn bg _ fun vs ds H2 x2 b2 hvs r => ⟨by rw [dps_len hvs]; exact (hl ds r).1, fun p o hp ho => by
    have e := hid_new (o := HO.frz o (.tup vs)) (H := H2) ((x2.kn kn b2).new hp)
    exact q _ (.tuple ds) _ (x2.trans (exb (Ex.new hp))) (b2.ex (Ex.new hp)) (.tup (.inl (.inr ⟨_, e⟩)) (.inl ⟨_, _, e, ho⟩) (hvs.up (Ex.new hp))) (hl ds r).2⟩
end
theorem GS.fin {K : PySem.W.Frag} {b : List Addr} {a : Addr} {n m : Nat} {σ : L2.St} {H : Hp} {ts : TS} {P : PyData → Prop} {D : Ends} (h : GS K b a n m ts σ H P) (kn : Kn b H) (bg : Bag a n H) (q : ∀ v d H', ExB a H H' → Bag a m H' → Dq K b H' v d → P d → D.rt v H') : ts D σ H := h H (ExB.refl a H) kn bg D q
/-! ### wide powers -/
def CPowW (i j : Int) : Prop := 0 ≤ j ∧ j ≤ 100 ∧ i.natAbs < 2 ^ 1000
theorem op_powW {X : Cx} : OpR X (binaryOp .Pow) (rI CPowW fun i j => .int (i ^ j.toNat)) := opI fun i j _ _ _ _ _ hc q => pow_int hc.1 (by
  have hlog : i.natAbs.log2 < 1000 := by
    by_cases h0 : i.natAbs = 0
    · rw [h0]; decide
    · exact (Nat.log2_lt h0).mpr hc.2.2
  have h1 : (Builtin.Int.intBits i : Nat) ≤ 1001 := by
    unfold Builtin.Int.intBits
    split <;> omega
  have h2 := hc.2.1
  have h3 := hc.1
  have h4 : ((Builtin.Int.intBits i : Nat) : Int) ≤ 1001 := by omega
  have h5 : ((Builtin.Int.intBits i : Nat) : Int) * j ≤ 1001 * 100 := Int.mul_le_mul h4 h2 h3 (by decide)
  exact Int.le_trans h5 (by decide)) q
end Wr

set_option Elab.async false
set_option linter.all false
set_option maxRecDepth 100000
set_option maxHeartbeats 4000000
namespace Wr
open PySem PySem.Spec PyProof.Rows L2 Evl
abbrev s_take : Stmt := topS 20
abbrev NT : List Str := ["_law_bag_here", "_law_many", "_law_digit"]
theorem sc_take : FnScope NT ["_law_bag_here", "_law_many"] (defScope s_take) := ⟨rfl, rfl, rfl, by decide +kernel, rfl, by decide +kernel, by decide +kernel⟩
def TakePre (ds : List PyData) : Prop := ∃ m, ds = [.int m] ∧ 0 < m ∧ m < 1073741824
def TakeR (ds : List PyData) (d : PyData) : Prop := ∃ m r, ds = [.int m] ∧ d = .int r ∧ 0 ≤ r ∧ r < m
abbrev spTake (K : PySem.W.Frag) : Sp := spG K 0 TakePre TakeR
theorem spG_len {K : PySem.W.Frag} {n k : Nat} {pre : List PyData → Prop} {R : List PyData → PyData → Prop} (hl : ∀ ds, pre ds → ds.length = k) {vs : List V} {H : Hp} {Q : VK} {E : XK} (h : spG K n pre R vs H Q E) : vs.length = k + 1 := by
  obtain ⟨b, a, k', ws, ds, rfl, _, _, _, hd, hp, _⟩ := h
  rw [List.length_cons, dps_len hd, hl ds hp]
section
variable {K : PySem.W.Frag} {b : List Addr} {σ : L2.St} {H H' : Hp} {ta tb te : TE}
theorem gnext {D : Ends} {σ : L2.St} {H : Hp} (h : D.nx σ H) : tNext D σ H := h
theorem g_set {D : Ends} {i : Nat} {ts : TS} {d : PyData} (h : ED K b te σ H d) (k : ∀ v H', Ex H H' → Dq K b H' v d → ts D (σ.set i (some v)) H') : tSeq (tAsg te (gName i)) ts D σ H := h H (Ex.refl H) _ fun v H' x hv => k v H' x hv
/-- an item of the bag -/
theorem ed_bag {a : Addr} {xs : List V} {i j : Nat} {k : Int} (hs : σ[j]? = some (some (.ref a))) (h : H a = some (.lst xs)) (hi : xs[i]? = some (.int k)) : ED K b (tOp (rIxL K) (tVar j) (tC (.int (i : Nat)))) σ H (.int k) := fun H1 x1 Q q =>
  ⟨.ref a, hs, a, xs, (i : Nat), .int k, rfl, rfl, .inl (.inl (x1 _ _ h)), atI_nat hi, q _ H1 (Ex.refl H1) (.int _)⟩
theorem ed_mul {i j : Int} (ha : ED K b ta σ H (.int i)) (hb : ED K b tb σ H (.int j)) (hc : CMul i j) : ED K b (tOp (rI CMul fun i j => .int (i * j)) ta tb) σ H (.int (i * j)) := ed_I ha hb hc fun _ => .int _
theorem ed_mod {i j : Int} (ha : ED K b ta σ H (.int i)) (hb : ED K b tb σ H (.int j)) (hc : 0 < j) : ED K b (tOp (rI (fun _ j => 0 < j) fun i j => .int (i % j)) ta tb) σ H (.int (i % j)) := ed_I ha hb hc fun _ => .int _
theorem ed_fdiv {i j : Int} (ha : ED K b ta σ H (.int i)) (hb : ED K b tb σ H (.int j)) (hc : CDiv i j) : ED K b (tOp (rI CDiv fun i j => .int (i / j)) ta tb) σ H (.int (i / j)) := ed_I ha hb hc fun _ => .int _
theorem ed_powW {i j : Int} (ha : ED K b ta σ H (.int i)) (hb : ED K b tb σ H (.int j)) (hc : CPowW i j) : ED K b (tOp (rI CPowW fun i j => .int (i ^ j.toNat)) ta tb) σ H (.int (i ^ j.toNat)) := ed_I ha hb hc fun _ => .int _
end
section
variable {P : Program} {w : World} {K : PySem.W.Frag} {mg : Str → Option Value} {base : Heap} {f g g2 : Addr} {fd gd gd2 : FuncData}
theorem ok_take (D : Def K mg "_law_take" s_take ["_law_bag_here", "_law_many"] f fd) : FnOk P w K mg base CX0 1 f fd ["_law_bag_here", "_law_many"] (spTake K) := by
  refine D.F.ok sc_take (fun vs H Q E h => spG_len (fun ds ⟨m, e, _⟩ => by rw [e]; rfl) h) (fun cdv A outer s H vs Q E hr h => ?_)
  obtain ⟨b, a, k, ws, ds, rfl, hab, kn, ⟨gg, x, hb, g0, x0, x1⟩, hd, ⟨m, rfl, m0, m1⟩, q⟩ := h
  obtain ⟨v, d, rfl, ed, hv⟩ := one_of hd rfl
  cases ed
  have ev := dq_int hv
  subst ev
  refine ⟨_, pss_cons (ps_if (pt_cmpR op_gt (pe_ix ix_list (pv 0) pe_int (fun _ _ => rfl)) pe_int (nomark _))
      (pss_cons (ps_set (i := 2) sc_take.nd rfl (Or.inl rfl) (pe_op op_mod (pe_ix ix_list (pv 0) pe_int (fun _ _ => rfl)) (pv 1)))
      (pss_cons (ps_asg (pe_op op_fdiv (pe_ix ix_list (pv 0) pe_int (fun _ _ => rfl)) (pv 1)) (pg_sub (pv 0) pe_int set_list))
      (pss_one (ps_ret (pv 2))))) pss_nil)
    (pss_cons (ps_asg (pe_op op_mod (pe_op op_add (pe_op op_mul (pe_ix ix_list (pv 0) pe_int (fun _ _ => rfl)) pe_int) pe_int) pe_int) (pg_sub (pv 0) pe_int set_list))
    (pss_one (ps_ret (pe_op op_mod (pe_op op_mod (pe_op op_mul (pe_op op_fdiv (pe_op op_mod (pe_op op_powW (pe_ix ix_list (pv 0) pe_int (fun _ _ => rfl)) pe_int) pe_int) pe_int) pe_int) pe_int) (pv 1))))), ?_⟩
  refine et_t (K := K) (b := b) (ed_gt (ed_bag (i := 0) rfl hb rfl) ed_int) H (Ex.refl H) _ fun H1 y1 => ?_
  by_cases hg : (0 : Int) < gg
  · rw [decide_eq_true hg, if_pos rfl]
    refine (ed_mod (K := K) (b := b) (ed_bag (i := 0) rfl (y1 _ _ hb) rfl) (ed_var (d := .int m) rfl (.int m)) m0) H1 (Ex.refl H1) _ fun v2 H2 y2 hv2 => ?_
    have e2 := dq_int hv2
    subst e2
    refine (ed_fdiv (K := K) (b := b) (ed_bag (i := 0) rfl (y2 _ _ (y1 _ _ hb)) rfl) (ed_var (d := .int m) rfl (.int m)) ⟨m0, m1⟩) H2 (Ex.refl H2) _ fun v3 H3 y3 hv3 => ?_
    have e3 := dq_int hv3
    subst e3
    have hb3 := y3 _ _ (y2 _ _ (y1 _ _ hb))
    refine ⟨.ref a, rfl, a, _, 0, 0, rfl, rfl, hb3, rfl, _, rfl, ?_⟩
    refine q _ (.int (gg % m)) _ (fun c o n h => ?_) ⟨gg / m, x, upd_same, Int.ediv_nonneg g0 (by omega), x0, x1⟩ (.int _) ⟨m, gg % m, rfl, rfl, Int.emod_nonneg _ (by omega), Int.emod_lt_of_pos _ m0⟩
    rw [upd_ne n]
    exact y3 _ _ (y2 _ _ (y1 _ _ h))
  · rw [decide_eq_false hg, if_neg Bool.false_ne_true]
    refine gnext ?_
    have hb1 := y1 _ _ hb
    refine (ed_mod (K := K) (b := b) (ed_add (ed_mul (ed_bag (i := 1) rfl hb1 rfl) ed_int (.inr ⟨by decide, by decide⟩)) ed_int) ed_int (by decide)) H1 (Ex.refl H1) _ fun v2 H2 y2 hv2 => ?_
    have e2 := dq_int hv2
    subst e2
    have z0 := Int.emod_nonneg (x * 48271 + 7919) (show (2147483647 : Int) ≠ 0 by decide)
    have z1 := Int.emod_lt_of_pos (x * 48271 + 7919) (show (0 : Int) < 2147483647 by decide)
    generalize (x * 48271 + 7919) % 2147483647 = z at z0 z1
    have hb2 := y2 _ _ hb1
    refine ⟨.ref a, rfl, a, _, 1, 1, rfl, rfl, hb2, rfl, ?_⟩
    have hb4 : (upd H2 a (.lst ([V.int gg, .int x].set 1 (.int z)))) a = some (.lst [.int gg, .int z]) := upd_same
    have hx4 : ExB a H (upd H2 a (.lst ([V.int gg, .int x].set 1 (.int z)))) := fun c o n h => by
      rw [upd_ne n]
      exact y2 _ _ (y1 _ _ h)
    generalize upd H2 a (.lst ([V.int gg, .int x].set 1 (.int z))) = H4 at hb4 hx4
    have hpw : CPowW z 3 := ⟨by decide, by decide, Nat.lt_of_lt_of_le (show z.natAbs < 2 ^ 31 by omega) (by decide)⟩
    have p0 := Int.emod_nonneg (z ^ (3 : Int).toNat) (show (2147483587 : Int) ≠ 0 by decide)
    have p1 := Int.emod_lt_of_pos (z ^ (3 : Int).toNat) (show (0 : Int) < 2147483587 by decide)
    refine (ed_mod (K := K) (b := b) (ed_mod (ed_mul (ed_fdiv (ed_mod (ed_powW (ed_bag (i := 1) rfl hb4 rfl) ed_int hpw) ed_int (by decide)) ed_int ⟨by decide, by decide⟩) ed_int (.inr ⟨by decide, by decide⟩)) ed_int (by decide)) (ed_var (d := .int m) rfl (.int m)) m0) H4 (Ex.refl H4) _ fun v8 H8 y8 hv8 => ?_
    exact q _ _ _ (hx4.trans (exb y8)) ⟨gg, z, y8 _ _ hb4, g0, z0, by omega⟩ hv8 ⟨m, _, rfl, rfl, Int.emod_nonneg _ (by omega), Int.emod_lt_of_pos _ m0⟩
end
end Wr

set_option Elab.async false
set_option linter.all false
set_option maxRecDepth 100000
set_option maxHeartbeats 4000000
namespace Wr
open PySem PySem.Spec PyProof.Rows L2 Evl
abbrev NN2 : List Str := ["_law_bag_here", "_law_many", "_law_letters", "_law_first", "_law_long", "_law_k"]
def IntB (m : Int) (d : PyData) : Prop := ∃ r, d = .int r ∧ 0 ≤ r ∧ r < m
section
variable {K : PySem.W.Frag} {b : List Addr} {a : Addr} {n m k : Nat} {σ : L2.St} {H H' : Hp} {ta tb te : TE} {t : TA} {tt : TT} {ts t1 t2 : TS} {P P' : PyData → Prop} {d : PyData}
theorem eg_takeE {i : Nat} {u : Int} {P1 : PyData → Prop} {E : XK} (ha : a ∈ b) (hb : σ[i]? = some (some (.ref a))) (h : EG K b a n m te σ H P1) (hp : ∀ d, P1 d → ∃ j, d = .int j ∧ 0 < j ∧ j < 1073741824 ∧ j ≤ u) : EG K b a n m (tCall (spTake K) [] E (tCons (tVar i) (tCons te tNil))) σ H (IntB u) :=
  eg_call ha hb (ega_cons ha h ega_nil) (fun ds ⟨d, r, e, p, er⟩ => by
    obtain ⟨j, rfl, h1, h2, _⟩ := hp d p
    subst er
    exact ⟨j, e, h1, h2⟩) fun ds d ⟨d', r, e, p, er⟩ ⟨j, x, e1, e2, h1, h2⟩ => by
    obtain ⟨j', rfl, _, _, h3⟩ := hp d' p
    subst er
    rw [e] at e1
    have ej : j' = j := by injection e1 with e1 _; injection e1
    exact ⟨x, e2, h1, by omega⟩
theorem eg_take {i : Nat} {u : Int} {E : XK} (ha : a ∈ b) (hb : σ[i]? = some (some (.ref a))) (h0 : 0 < u) (h1 : u < 1073741824) : EG K b a n n (tCall (spTake K) [] E (tCons (tVar i) (tCons (tC (.int u)) tNil))) σ H (IntB u) :=
  eg_takeE (P1 := fun d => d = .int u) ha hb (eg_pure (fun _ _ _ => ed_int) rfl) fun d e => ⟨u, e, h0, h1, Int.le_refl u⟩
theorem eg_ixL {P1 P2 : PyData → Prop} (ha : a ∈ b) (h1 : EG K b a n k ta σ H P1) (h2 : EG K b a k m tb σ H P2) (hi : ∀ d e, P1 d → P2 e → ∃ ds i z, d = .list ds ∧ e = .int i ∧ atI ds i = some z ∧ P z) : EG K b a n m (tOp (rIxL K) ta tb) σ H P :=
  eg_op ha h1 h2 fun d e H1 x y Q p1 p2 _ _ hx hy q => by
    obtain ⟨ds, i, z, rfl, rfl, hz, p⟩ := hi d e p1 p2
    cases hx with
    | lst g1 g2 =>
      obtain ⟨v, q1, q2⟩ := dps_atI g2 hz
      exact ⟨_, _, i, v, rfl, dq_int hy, ex_l hid_le g1, q1, q v z H1 (Ex.refl H1) q2 p⟩
theorem eg_I0 {g : Int → Int → Int} {P1 P2 : PyData → Prop} (ha : a ∈ b) (h1 : EG K b a n k ta σ H P1) (h2 : EG K b a k m tb σ H P2) (hi : ∀ d e, P1 d → P2 e → ∃ i j, d = .int i ∧ e = .int j ∧ P (.int (g i j))) : EG K b a n m (tOp (rI0 fun i j => .int (g i j)) ta tb) σ H P :=
  eg_op ha h1 h2 fun d e H1 x y Q p1 p2 _ _ hx hy q => by
    obtain ⟨i, j, rfl, rfl, p⟩ := hi d e p1 p2
    exact ⟨i, j, dq_int hx, dq_int hy, q _ _ H1 (Ex.refl H1) (.int _) p⟩
theorem intB_at {ds : List PyData} {u : Int} {d : PyData} (h : IntB u d) (hu : u ≤ ds.length) : ∃ i z, d = .int i ∧ atI ds i = some z ∧ z ∈ ds := by
  obtain ⟨r, rfl, h0, h1⟩ := h
  have hr : r.toNat < ds.length := by omega
  have e : ((r.toNat : Nat) : Int) = r := Int.toNat_of_nonneg h0
  have q := atI_nat (xs := ds) (j := r.toNat) (List.getElem?_eq_getElem hr)
  rw [e] at q
  exact ⟨r, ds[r.toNat], rfl, q, List.getElem_mem hr⟩
end
section
variable {P : Program} {w : World} {K : PySem.W.Frag} {mg : Str → Option Value} {base : Heap} {f g g2 : Addr} {fd gd gd2 : FuncData}
end
end Wr

set_option Elab.async false
set_option linter.all false
set_option maxRecDepth 100000
set_option maxHeartbeats 4000000
namespace Wr
open PySem PySem.Spec PyProof.Rows L2 Evl
/-! ### how great data are -/
def okL (L : Nat) : Nat → PyData → Bool
  | _, .none => true
  | _, .bool _ => true
  | _, .int i => decide (i.natAbs < 10 ^ 40 + L)
  | _, .str x => PyData.strOk x && decide (x.length ≤ 1000)
  | n + 1, .list ds => decide (ds.length ≤ L) && ds.all (okL L n)
  | n + 1, .tuple ds => decide (ds.length ≤ L) && ds.all (okL L n)
  | _, _ => false
theorem int_room {L i : Nat} (hL : L ≤ 1000) (h : i < 10 ^ 40 + L) : i < 10 ^ 45 := by
  have : (10 ^ 40 + 1000 : Nat) < 10 ^ 45 := by decide
  omega
theorem okL_ok {L : Nat} (hL : L ≤ 1000) : ∀ (n : Nat) (d : PyData), okL L n d = true → okD n d = true
  | 0, .none, _ => rfl
  | 0, .bool _, _ => rfl
  | 0, .int i, h => decide_eq_true (int_room hL (of_decide_eq_true h))
  | 0, .str x, h => h
  | 0, .list ds, h => by cases h
  | 0, .tuple ds, h => by cases h
  | 0, .dict _, h => by cases h
  | _ + 1, .none, _ => rfl
  | _ + 1, .bool _, _ => rfl
  | _ + 1, .int i, h => decide_eq_true (int_room hL (of_decide_eq_true h))
  | _ + 1, .str x, h => h
  | _ + 1, .dict _, h => by cases h
  | n + 1, .list ds, h => by
    have h' : (decide (ds.length ≤ L) && ds.all (okL L n)) = true := h
    show (decide (ds.length ≤ 1000) && ds.all (okD n)) = true
    rw [Bool.and_eq_true] at h' ⊢
    exact ⟨decide_eq_true (Nat.le_trans (of_decide_eq_true h'.1) hL), List.all_eq_true.mpr fun d hd => okL_ok hL n d (List.all_eq_true.mp h'.2 d hd)⟩
  | n + 1, .tuple ds, h => by
    have h' : (decide (ds.length ≤ L) && ds.all (okL L n)) = true := h
    show (decide (ds.length ≤ 1000) && ds.all (okD n)) = true
    rw [Bool.and_eq_true] at h' ⊢
    exact ⟨decide_eq_true (Nat.le_trans (of_decide_eq_true h'.1) hL), List.all_eq_true.mpr fun d hd => okL_ok hL n d (List.all_eq_true.mp h'.2 d hd)⟩
theorem okL_up {L M : Nat} (hL : L ≤ M) : ∀ (n m : Nat) (d : PyData), n ≤ m → okL L n d = true → okL M m d = true
  | _, 0, .none, _, _ => rfl
  | _, _ + 1, .none, _, _ => rfl
  | _, 0, .bool _, _, _ => rfl
  | _, _ + 1, .bool _, _, _ => rfl
  | n, m, .int i, _, h => by
    have h' : decide (i.natAbs < 10 ^ 40 + L) = true := by cases n <;> exact h
    have h2 : decide (i.natAbs < 10 ^ 40 + M) = true := decide_eq_true (by have := of_decide_eq_true h'; omega)
    cases m <;> exact h2
  | n, m, .str x, _, h => by cases n <;> cases m <;> exact h
  | 0, _, .list ds, _, h => by cases h
  | 0, _, .tuple ds, _, h => by cases h
  | 0, _, .dict _, _, h => by cases h
  | _ + 1, _, .dict _, _, h => by cases h
  | n + 1, 0, .list ds, hm, h => by omega
  | n + 1, 0, .tuple ds, hm, h => by omega
  | n + 1, m + 1, .list ds, hm, h => by
    have h' : (decide (ds.length ≤ L) && ds.all (okL L n)) = true := h
    show (decide (ds.length ≤ M) && ds.all (okL M m)) = true
    rw [Bool.and_eq_true] at h' ⊢
    exact ⟨decide_eq_true (Nat.le_trans (of_decide_eq_true h'.1) hL), List.all_eq_true.mpr fun d hd => okL_up hL n m d (by omega) (List.all_eq_true.mp h'.2 d hd)⟩
  | n + 1, m + 1, .tuple ds, hm, h => by
    have h' : (decide (ds.length ≤ L) && ds.all (okL L n)) = true := h
    show (decide (ds.length ≤ M) && ds.all (okL M m)) = true
    rw [Bool.and_eq_true] at h' ⊢
    exact ⟨decide_eq_true (Nat.le_trans (of_decide_eq_true h'.1) hL), List.all_eq_true.mpr fun d hd => okL_up hL n m d (by omega) (List.all_eq_true.mp h'.2 d hd)⟩
theorem okL_tup {L n : Nat} {ds : List PyData} (hl : ds.length ≤ L) (h : ∀ d ∈ ds, okL L n d = true) : okL L (n + 1) (.tuple ds) = true := by
  show (decide (ds.length ≤ L) && ds.all (okL L n)) = true
  rw [decide_eq_true hl, Bool.true_and]
  exact List.all_eq_true.mpr h
theorem okL_items {L n : Nat} {ds : List PyData} (h : okL L (n + 1) (.tuple ds) = true) : ds.length ≤ L ∧ ∀ d ∈ ds, okL L n d = true := by
  have h' : (decide (ds.length ≤ L) && ds.all (okL L n)) = true := h
  rw [Bool.and_eq_true] at h'
  exact ⟨of_decide_eq_true h'.1, List.all_eq_true.mp h'.2⟩
mutual
def szD : PyData → Nat
  | .none => 4
  | .bool _ => 5
  | .int _ => 1921
  | .str x => 10 * x.length + 2
  | .list xs => szAll xs + 3
  | .tuple xs => szAll xs + 3
  | .dict _ => 0
def szAll : List PyData → Nat
  | [] => 0
  | x :: xs => szD x + 2 + szAll xs
end
theorem szAll_app (xs ys : List PyData) : szAll (xs ++ ys) = szAll xs + szAll ys := by
  induction xs with
  | nil => simp only [List.nil_append, szAll, Nat.zero_add]
  | cons x r ih =>
    simp only [List.cons_append, szAll, ih]
    omega
theorem szAll_le {c : Nat} : ∀ {xs : List PyData}, (∀ x ∈ xs, szD x ≤ c) → szAll xs ≤ xs.length * (c + 2)
  | [], _ => by simp only [szAll]; omega
  | x :: xs, h => by
    have h1 := h x List.mem_cons_self
    have h2 := szAll_le fun y hy => h y (List.mem_cons_of_mem _ hy)
    simp only [szAll, List.length_cons, Nat.add_mul]
    omega
theorem szD_str (x : Str) : szD (.str x) = 10 * x.length + 2 := by simp only [szD]
theorem szD_int (i : Int) : szD (.int i) = 1921 := by simp only [szD]
theorem szD_tup (xs : List PyData) : szD (.tuple xs) = szAll xs + 3 := by simp only [szD]
theorem szD_lst (xs : List PyData) : szD (.list xs) = szAll xs + 3 := by simp only [szD]
theorem name_len {x : Str} (h : nameS x = true) : x.length ≤ 8 := by
  unfold nameS at h
  rw [Bool.and_eq_true] at h
  exact of_decide_eq_true h.1
theorem okL_str {L n : Nat} {x : Str} (h : PyData.strOk x = true) (hl : x.length ≤ 1000) : okL L n (.str x) = true := by
  have e : (PyData.strOk x && decide (x.length ≤ 1000)) = true := by
    rw [h, decide_eq_true hl]
    rfl
  cases n <;> exact e
theorem okL_int {L n : Nat} {i : Int} (h : i.natAbs < 10 ^ 40) : okL L n (.int i) = true := by
  have h2 : decide (i.natAbs < 10 ^ 40 + L) = true := decide_eq_true (by omega)
  cases n <;> exact h2
end Wr

set_option Elab.async false
set_option linter.all false
set_option maxRecDepth 100000
set_option maxHeartbeats 4000000
namespace Wr
open PySem PySem.Spec PyProof.Rows L2 Evl
/-! ### tuples made, their object known -/
abbrev tupO (its : Array Value) : Obj := { cls := .type "tuple", data := .seq its }
theorem frz_new {P : Program} {w : World} {H : Hp} {h : Heap} {xs : List V} {its : List Value} (hz : xs.length ≤ sizeLine) (r : Vals xs its) : ObjOk P w (upd H h.objs.size (.frz (tupO its.toArray) (.tup xs))) (h.push (tupO its.toArray)) h.objs.size (.frz (tupO its.toArray) (.tup xs)) :=
  ⟨Heap.get?_push_size _ rfl, hz, its, r, ⟨_, Heap.get?_push_size _ rfl, rfl, _, rfl⟩⟩
def rTupOf (K : PySem.W.Frag) : List V → Hp → VK → Prop := fun xs H Q => ∃ p ys, xs = [.ref p] ∧ SqL K H p ys ∧ ∀ l o, H l = none → o.dict = none → Q (.ref l) (upd H l (.frz o (.tup ys)))
theorem call_tupF {X : Cx} : CallR X (.type "tuple") (rTupOf X.K) := by
  intro pins s σ H xs us Q I r ⟨p, ys, e, hq, q⟩
  subst e
  obtain ⟨u, rfl, rx⟩ := vals1 r
  cases rx
  obtain ⟨its, r', pl, hz⟩ := I.list hq
  have hlen := r'.length
  refine call_tuple_list pl.isList (fun h' kp => ?_) (by simp only [List.size_toArray] <;> omega)
  have I1 : Inv X pins σ H { s with heap := h' } := I.kept (t' := s.toks) kp
  exact ⟨.ref h'.objs.size, _, I1.laid (t' := s.toks) (fun b o e => Heap.get?_push_of_some _ e) (Nat.le_refl _) (frz_new hz r'), rfl, q _ _ (I1.hok.fresh (Nat.le_refl _)) rfl⟩
def rSlF (K : PySem.W.Frag) : V → Option Int → Option Int → Hp → VK → Prop := fun x lo hi H Q => ∃ a xs, x = .ref a ∧ SqT K H a xs ∧ (xs = cutV xs lo hi → Q (.ref a) H) ∧ ∀ p o, H p = none → o.dict = none → Q (.ref p) (upd H p (.frz o (.tup (cutV xs lo hi))))
theorem sl_tupF {X : Cx} : SlR X (rSlF X.K) := by
  intro pins s σ H x v vl vu lo hi sl Q I rx hs pl pu ⟨a, xs, e, hx, q1, q2⟩
  subst e
  cases rx
  obtain ⟨its, r, ht, hz⟩ := I.tuple hx
  have hlen : its.toArray.size = xs.length := by rw [List.size_toArray]; exact r.length.symm
  refine ⟨"tuple", _, PyProof.Rows.slot_tuple_getitem.lookup, ht.typeIs, ?_⟩
  by_cases hw : HT.sIx xs.length 0 lo = 0 ∧ HT.sIx xs.length xs.length hi = xs.length
  · refine getItem_tuple_whole ht hs pl pu (by rw [hlen]; exact hw) ⟨.ref a, H, I, rfl, q1 ?_⟩
    unfold cutV
    rw [hw.1, hw.2]
    simp
  · refine HT.getItem_tuple_cut ht hs pl pu (by rw [hlen]; exact hw) ?_ (by rw [hlen]; exact hz)
    rw [hlen]
    exact ⟨.ref s.heap.objs.size, _, I.laid (t' := s.toks) (fun b ob q => Heap.get?_push_of_some _ q) (Nat.le_refl _) (frz_new (Nat.le_trans (cutV_length xs lo hi) hz) ((r.drop (HT.sIx xs.length 0 lo)).take (HT.sIx xs.length xs.length hi - HT.sIx xs.length 0 lo))), rfl, q2 _ _ (I.hok.fresh (Nat.le_refl _)) rfl⟩
def rCatF (K : PySem.W.Frag) : R2 := fun x y H Q => ∃ a b xs ys, x = .ref a ∧ y = .ref b ∧ SqT K H a xs ∧ SqT K H b ys ∧ xs.length + ys.length ≤ sizeLine ∧ (xs = [] → Q (.ref b) H) ∧ (ys = [] → Q (.ref a) H) ∧ ∀ p o, H p = none → o.dict = none → Q (.ref p) (upd H p (.frz o (.tup (xs ++ ys))))
theorem op_catF {X : Cx} : OpR X (binaryOp .Add) (rCatF X.K) := by
  intro pins s σ H x y v u Q I rx ry ⟨a, b, xs, ys, e1, e2, ha, hb, hz, q0, q1, q2⟩
  subst e1 e2
  cases rx
  cases ry
  obtain ⟨its, r1, p1, _⟩ := I.tuple ha
  obtain ⟨its2, r2, p2, _⟩ := I.tuple hb
  by_cases hx : xs = []
  · subst hx
    cases r1
    exact cat_tup0 p1 p2 ⟨.ref b, H, I, rfl, q0 rfl⟩
  · refine HT.cat_tup p1 p2 (fun z => hx (r1.nil_iff.mp z)) (fun z => ⟨.ref a, H, I, rfl, q1 (r2.nil_iff.mp z)⟩) (fun z => ?_) (by rw [← r1.length, ← r2.length]; exact hz)
    exact ⟨.ref s.heap.objs.size, _, I.laid (t' := s.toks) (fun b ob q => Heap.get?_push_of_some _ q) (Nat.le_refl _) (frz_new (by rw [List.length_append]; exact hz) (r1.append r2)), rfl, q2 _ _ (I.hok.fresh (Nat.le_refl _)) rfl⟩
/-! ### on data -/
def cutD (ds : List PyData) (lo hi : Option Int) : List PyData := (ds.drop (HT.sIx ds.length 0 lo)).take (HT.sIx ds.length ds.length hi - HT.sIx ds.length 0 lo)
theorem cut_dps {K : PySem.W.Frag} {H : Hp} {vs : List V} {ds : List PyData} (h : DdAll K H vs ds) (lo hi : Option Int) : DdAll K H (cutV vs lo hi) (cutD ds lo hi) := by
  unfold cutV cutD
  rw [dps_len h]
  exact dps_take _ (dps_drop _ h)
section
variable {K : PySem.W.Frag} {b : List Addr} {a : Addr} {n m k : Nat} {σ : L2.St} {H H' : Hp} {ta tb te : TE} {t : TA} {P : PyData → Prop} {d : PyData} {ds es : List PyData}
theorem dq_newT {p : Addr} {o : Obj} {vs : List V} (kn : Kn b H) (hp : H p = none) (ho : o.dict = none) (hd : DqAll K b H vs ds) : Dq K b (upd H p (.frz o (.tup vs))) (.ref p) (.tuple ds) := by
  have e := hid_new (o := HO.frz o (.tup vs)) (H := H) (kn.new hp)
  exact .tup (.inl (.inr ⟨_, e⟩)) (.inl ⟨_, _, e, ho⟩) (DqAll.up hd (Ex.new hp))
def EO (to : TO) (σ : L2.St) (H : Hp) (o : Option Int) : Prop := ∀ H1, Ex H H1 → ∀ Q : Option Int → Hp → Prop, (∀ H2, Ex H1 H2 → Q o H2) → to σ H1 Q
theorem eo_none : EO tNoPart σ H none := fun H1 x Q q => q H1 (Ex.refl H1)
theorem eo_some {i : Int} (h : ED K b te σ H (.int i)) : EO (tPart te) σ H (some i) := fun H1 x Q q => h H1 x _ fun v H2 x2 hv => ⟨i, dq_int hv, q H2 x2⟩
theorem ed_slT {tl th : TO} {lo hi : Option Int} (kn : Kn b H) (ha : ED K b ta σ H (.tuple ds)) (h1 : EO tl σ H lo) (h2 : EO th σ H hi) : ED K b (tSl (rSlF K) ta tl th) σ H (.tuple (cutD ds lo hi)) := fun H1 x1 Q q =>
  ha H1 x1 _ fun x H2 x2 hx => h1 H2 (x1.trans x2) _ fun H3 x3 => h2 H3 ((x1.trans x2).trans x3) _ fun H4 x4 => by
    have hx4 := (hx.up x3).up x4
    have hx5 := hx4
    cases hx5 with
    | tup g1 gn g2 =>
      have kn4 := kn.up (((x1.trans x2).trans x3).trans x4)
      refine ⟨_, _, rfl, ex_t hid_le g1, fun e => ?_, fun p o hp ho => ?_⟩
      · have e2 : DdAll K (hid b H4) _ (cutD ds lo hi) := cut_dps g2 lo hi
        rw [← e] at e2
        exact q _ H4 ((x2.trans x3).trans x4) (.tup g1 gn e2)
      · exact q _ _ (((x2.trans x3).trans x4).trans (Ex.new hp)) (dq_newT kn4 hp ho (cut_dps g2 lo hi))
/-- t + u, as a rule on data -/
theorem cat_data {x y : V} {Q : VK} (kn : Kn b H) (hx : Dq K b H x (.tuple ds)) (hy : Dq K b H y (.tuple es)) (hl : ds.length + es.length ≤ sizeLine) (q : ∀ v H2, Ex H H2 → Dq K b H2 v (.tuple (ds ++ es)) → Q v H2) : rCatF K x y H Q := by
  have hx' := hx
  have hy' := hy
  cases hx' with
  | tup g1 gn g2 =>
    cases hy' with
    | tup f1 fn f2 =>
      refine ⟨_, _, _, _, rfl, rfl, ex_t hid_le g1, ex_t hid_le f1, by rw [dps_len g2, dps_len f2]; exact hl, fun e => ?_, fun e => ?_, fun p o hp ho => ?_⟩
      · subst e
        have : ds = [] := by cases g2; rfl
        subst this
        exact q _ H (Ex.refl H) hy
      · subst e
        have : es = [] := by cases f2; rfl
        subst this
        rw [List.append_nil] at q
        exact q _ H (Ex.refl H) hx
      · exact q _ _ (Ex.new hp) (dq_newT kn hp ho (dps_app g2 f2))
theorem ed_catT (kn : Kn b H) (ha : ED K b ta σ H (.tuple ds)) (hb : ED K b tb σ H (.tuple es)) (hl : ds.length + es.length ≤ sizeLine) : ED K b (tOp (rCatF K) ta tb) σ H (.tuple (ds ++ es)) :=
  ed_op ha hb fun H1 x y Q x1 hx hy q => cat_data (kn.up x1) hx hy hl fun v H2 x2 hv => q v H2 x2 hv
theorem eg_catT {P1 P2 : PyData → Prop} (ha : a ∈ b) (h1 : EG K b a n k ta σ H P1) (h2 : EG K b a k m tb σ H P2) (hi : ∀ d e, P1 d → P2 e → ∃ ds es, d = .tuple ds ∧ e = .tuple es ∧ ds.length + es.length ≤ sizeLine ∧ P (.tuple (ds ++ es))) : EG K b a n m (tOp (rCatF K) ta tb) σ H P :=
  eg_op ha h1 h2 fun d e H1 x y Q p1 p2 _ kn1 hx hy q => by
    obtain ⟨ds, es, rfl, rfl, hl, p⟩ := hi d e p1 p2
    exact cat_data kn1 hx hy hl fun v H2 x2 hv => q v _ H2 x2 hv p
theorem eg_lst {R : List PyData → Prop} (h : EGA K b a n m t σ H R) (hl : ∀ ds, R ds → ds.length ≤ sizeLine ∧ P (.list ds)) : EG K b a n m (tLst t) σ H P := fun H1 x1 kn bg Q q =>
  h H1 x1 kn bg _ fun vs ds H2 x2 b2 hvs r => ⟨by rw [dps_len hvs]; exact (hl ds r).1, fun p hp => q _ (.list ds) _ (x2.trans (exb (Ex.new hp))) (b2.ex (Ex.new hp)) (.lst (.inl (.inl (hid_new ((x2.kn kn b2).new hp)))) (hvs.up (Ex.new hp))) (hl ds r).2⟩
/-- tuple(list) -/
theorem eg_tupOf {P1 : PyData → Prop} (h : EG K b a n m ta σ H P1) (hi : ∀ d, P1 d → ∃ ds, d = .list ds ∧ P (.tuple ds)) : EG K b a n m (tCB (rTupOf K) (tCons ta tNil)) σ H P := fun H1 x1 kn bg Q q =>
  h H1 x1 kn bg _ fun v d H2 x2 b2 hv p1 => by
    obtain ⟨ds, rfl, p⟩ := hi d p1
    cases hv with
    | lst g1 g2 =>
      refine ⟨_, _, rfl, ex_l hid_le g1, fun l o hl ho => ?_⟩
      exact q _ (.tuple ds) _ (x2.trans (exb (Ex.new hl))) (b2.ex (Ex.new hl)) (dq_newT (x2.kn kn b2) hl ho g2) p
/-- a list's beginning, how much is drawn -/
theorem eg_slL {P1 P2 : PyData → Prop} (ha : a ∈ b) (h1 : EG K b a n k ta σ H P1) (h2 : EG K b a k m te σ H P2) (hi : ∀ d e, P1 d → P2 e → ∃ ds i, d = .list ds ∧ e = .int i ∧ P (.list (cutD ds none (some i)))) : EG K b a n m (tSl (rSlL K) ta tNoPart (tPart te)) σ H P := fun H1 x1 kn bg Q q =>
  h1 H1 x1 kn bg _ fun x d H2 x2 b2 hx p1 => h2 H2 (x1.trans x2) (x2.kn kn b2) b2 _ fun y e H3 x3 b3 hy p2 => by
    obtain ⟨ds, i, rfl, rfl, p⟩ := hi d e p1 p2
    have hx3 := hx.upB ha x3
    cases hx3 with
    | lst g1 g2 =>
      have kn3 := x3.kn (x2.kn kn b2) b3
      exact ⟨i, dq_int hy, _, _, rfl, ex_l hid_le g1, fun r hr => q _ _ _ ((x2.trans x3).trans (exb (Ex.new hr))) (b3.ex (Ex.new hr)) (.lst (.inl (.inl (hid_new (kn3.new hr)))) (DqAll.up (cut_dps g2 none (some i)) (Ex.new hr))) p⟩
/-- int(truth) -/
def rInt1 : List V → Hp → VK → Prop := fun xs H Q => (∃ i, xs = [.int i] ∧ Q (.int i) H) ∨ ∃ k, xs = [.bl k] ∧ Q (.int (if k then 1 else 0)) H
theorem call_intB {X : Cx} : CallR X (.type "int") rInt1 := call_int1
theorem ed_intB {c : Bool} (ha : ED K b ta σ H (.bool c)) : ED K b (tCB rInt1 (tCons ta tNil)) σ H (.int (if c then 1 else 0)) := fun H1 x1 Q q =>
  ha H1 x1 _ fun v H2 x2 hv => .inr ⟨c, by rw [dq_bl hv], q _ H2 x2 (.int _)⟩
/-! ### hiding one more -/
theorem hide_ex {D : Addr} (hD : H D = none) : Ex (hid b H) (hid (D :: b) H) := fun c o h => by
  obtain ⟨h1, h2⟩ := hid_some h
  have : c ∉ D :: b := fun z => by
    rcases List.mem_cons.mp z with rfl | z
    · rw [hD] at h2; cases h2
    · exact h1 z
  rw [hid_ne this]
  exact h2
theorem Dq.hide {D : Addr} {v : V} (h : Dq K b H v d) (hD : H D = none) : Dq K (D :: b) H v d := dp_ex (hide_ex hD) d v h
theorem show_ex {D : Addr} : Ex (hid (D :: b) H) (hid b H) := fun c o h => by
  obtain ⟨h1, h2⟩ := hid_some h
  rw [hid_ne fun z => h1 (List.mem_cons_of_mem _ z)]
  exact h2
theorem put_ex {D : Addr} {o : HO} : Ex (hid (D :: b) H) (hid (D :: b) (upd H D o)) := fun c u h => by
  obtain ⟨h1, h2⟩ := hid_some h
  rw [hid_ne h1, upd_ne fun z => h1 (by rw [z]; exact List.mem_cons_self)]
  exact h2
/-- [.. for i in range(n)], each item drawn -/
theorem eg_lcR {i0 c N : Nat} {R : Nat → PyData → Prop} (ha : a ∈ b) (hcount : ∀ H1, ExB a H H1 → Kn b H1 → ED K b ta σ H1 (.int (N : Nat))) (hN : N ≤ 1000)
    (he : ∀ (D : Addr) (i f : Nat) (H0 H1 : Hp), i < N → ExB a H H0 → H0 D = none → ExB a H0 H1 → EG K (D :: b) a (f + c) f te ((wipe σ [i0]).set i0 (some (.int (i : Nat)))) H1 (R i)) :
    EG K b a (m + N * c) m (tLc (iRng1 (tCons ta tNil)) (gName i0) tYes te [i0]) σ H (fun d => ∃ ds, d = .list ds ∧ ds.length = N ∧ ∀ i x, ds[i]? = some x → R i x) := fun H1 x1 kn bg Q q =>
  hcount H1 x1 kn H1 (Ex.refl H1) _ fun v H2 x2 hv => by
    have e := dq_int hv
    subst e
    have hsl : sizeLine = 16777216 := sizeLine_eq
    have kn2 := kn.up x2
    have bg2 := bg.ex x2
    refine ⟨(N : Nat), rfl, by omega, by omega, fun D hD => ?_⟩
    rw [show ((N : Nat) : Int).toNat = N from rfl]
    have hDa : D ≠ a := fun z => bg2.there (z ▸ hD)
    refine lc_range (Pv := fun i H3 => ExB a H2 H3 ∧ Kn (D :: b) H3 ∧ Bag a (m + (N - i) * c) H3 ∧ ∃ acc ds, H3 D = some (.lst acc) ∧ DqAll K (D :: b) H3 acc ds ∧ ds.length = i ∧ ∀ j x, ds[j]? = some x → R j x) ?_ ?_ ?_
    · refine ⟨exb (Ex.new hD), fun z hz => ?_, ?_, [], [], upd_same, .nil, rfl, fun j x h => by simp at h⟩
      · rcases List.mem_cons.mp hz with rfl | hz
        · rw [upd_same]; intro q; cases q
        · rw [upd_ne (fun z' : z = D => kn2.new hD (by rw [← z']; exact hz))]
          exact kn2 z hz
      · rw [Nat.sub_zero]
        exact bg2.ex (Ex.new hD)
    · intro i H3 hi ⟨x3, k3, b3, acc, ds, hd3, hacc, hlen, hR⟩
      refine ⟨wipe_set1, ?_⟩
      refine et_yes (H := H3) _ (Ex.refl _) _ fun H4 x4 => ?_
      rw [if_pos rfl]
      have eN : N - i = (N - (i + 1)) + 1 := by omega
      have bb : Bag a ((m + (N - (i + 1)) * c) + c) H4 := (b3.ex x4).le (by rw [eN, Nat.add_mul]; omega)
      rw [show (0 + (i : Int)) = ((i : Nat) : Int) from Int.zero_add _]
      refine he D i (m + (N - (i + 1)) * c) H2 H4 hi (x1.trans (exb x2)) hD (x3.trans (exb x4)) H4 (ExB.refl a H4) (k3.up x4) bb _ fun y d H5 x5 b5 hy r => ?_
      have hd5 : H5 D = some (.lst acc) := x5 _ _ hDa (x4 _ _ hd3)
      have hm : a ∈ D :: b := List.mem_cons_of_mem _ ha
      refine ⟨acc, hd5, ?_, ?_, ?_, ?_, acc ++ [y], ds ++ [d], upd_same, ?_, ?_, ?_⟩
      · rw [dps_len hacc]; omega
      · intro z o hz h
        by_cases e : z = D
        · subst e; rw [hD] at h; cases h
        · rw [upd_ne e]
          exact x5 _ _ hz (x4 _ _ (x3 _ _ hz h))
      · intro z hz
        by_cases e : z = D
        · subst e; rw [upd_same]; intro q; cases q
        · rw [upd_ne e]
          exact x5.kn (k3.up x4) b5 z hz
      · obtain ⟨g, x, h1, r'⟩ := b5
        exact ⟨g, x, by rw [upd_ne (Ne.symm hDa)]; exact h1, r'⟩
      · exact dps_ex put_ex _ _ (dps_app (DqAll.upB hm (DqAll.up hacc x4) x5) (.cons hy .nil))
      · rw [List.length_append, hlen]; rfl
      · intro j x hj
        by_cases hjl : j < ds.length
        · rw [List.getElem?_append_left hjl] at hj
          exact hR j x hj
        · rw [List.getElem?_append_right (by omega)] at hj
          have : j - ds.length = 0 := by
            by_cases hz : j - ds.length = 0
            · exact hz
            · rw [List.getElem?_eq_none (by rw [List.length_singleton]; omega)] at hj
              cases hj
          rw [this] at hj
          have ex : d = x := Option.some.inj hj
          have ej : j = i := by omega
          rw [ej, ← ex]
          exact r
    · intro H3 ⟨x3, k3, b3, acc, ds, hd3, hacc, hlen, hR⟩
      rw [Nat.sub_self, Nat.zero_mul, Nat.add_zero] at b3
      refine q _ (.list ds) H3 ((exb x2).trans x3) b3 (.lst (.inl (.inl ?_)) (dps_ex show_ex _ _ hacc)) ⟨ds, rfl, hlen, hR⟩
      rw [hid_ne (kn2.new hD)]
      exact hd3
end
end Wr

set_option Elab.async false
set_option linter.all false
set_option maxRecDepth 100000
set_option maxHeartbeats 4000000
namespace Wr
open PySem PySem.Spec PyProof.Rows L2 Evl
structure Blt2 (mg : Str → Option Value) : Prop where
  abs : mg "abs" = none
  max : mg "max" = none
  min : mg "min" = none
  repr : mg "repr" = none
abbrev s_bag : Stmt := topS 19
abbrev NB : List Str := ["_law_script", "_law_at", "_law_cell", "_law_mix", "_law_k"]
theorem sc_bag : FnScope NB ["_law_script", "_law_at"] (defScope s_bag) := ⟨rfl, rfl, rfl, by decide +kernel, rfl, by decide +kernel, by decide +kernel⟩
/-- a new bag, out of the script and a place -/
def spBag (K : PySem.W.Frag) : Sp := fun vs H Q _ => ∃ (b : List Addr) (ns : List Int) (k : Int), Kn b H ∧ DqAll K b H vs [.list (ns.map PyData.int), .int k] ∧ 0 ≤ k ∧ k < 100 ∧ ns.length ≤ 1000 ∧ ∀ p H', H p = none → Ex H H' → Bag p 0 H' → Q (.ref p) H'
def rAbs : List V → Hp → VK → Prop := fun xs H Q => ∃ i, xs = [.int i] ∧ Q (.int (if i < 0 then -i else i)) H
theorem call_absB {X : Cx} : CallR X (.builtin "abs") rAbs := call_abs
def rMax2 : List V → Hp → VK → Prop := fun xs H Q => ∃ i j, xs = [.int i, .int j] ∧ Q (.int (if j > i then j else i)) H
def rMin2 : List V → Hp → VK → Prop := fun xs H Q => ∃ i j, xs = [.int i, .int j] ∧ Q (.int (if j < i then j else i)) H
theorem cr_max2 {X : Cx} (hc : X.calm = true) : CallR X (.builtin "max") rMax2 := call_max2 hc
theorem cr_min2 {X : Cx} (hc : X.calm = true) : CallR X (.builtin "min") rMin2 := call_min2 hc
section
variable {K : PySem.W.Frag} {b : List Addr} {σ : L2.St} {H H' : Hp} {ta tb te : TE} {t : TA} {ds es : List PyData} {D : Ends} {ts : TS}
theorem ed_abs {i : Int} (ha : ED K b ta σ H (.int i)) : ED K b (tCB rAbs (tCons ta tNil)) σ H (.int (if i < 0 then -i else i)) := fun H1 x1 Q q =>
  ha H1 x1 _ fun v H2 x2 hv => ⟨i, by rw [dq_int hv], q _ H2 x2 (.int _)⟩
theorem ed_max2 {i j : Int} (ha : ED K b ta σ H (.int i)) (hb : ED K b tb σ H (.int j)) : ED K b (tCB rMax2 (tCons ta (tCons tb tNil))) σ H (.int (if j > i then j else i)) := fun H1 x1 Q q =>
  ha H1 x1 _ fun v H2 x2 hv => hb H2 (x1.trans x2) _ fun u H3 x3 hu => ⟨i, j, by rw [dq_int hv, dq_int hu], q _ H3 (x2.trans x3) (.int _)⟩
theorem ed_min2 {i j : Int} (ha : ED K b ta σ H (.int i)) (hb : ED K b tb σ H (.int j)) : ED K b (tCB rMin2 (tCons ta (tCons tb tNil))) σ H (.int (if j < i then j else i)) := fun H1 x1 Q q =>
  ha H1 x1 _ fun v H2 x2 hv => hb H2 (x1.trans x2) _ fun u H3 x3 hu => ⟨i, j, by rw [dq_int hv, dq_int hu], q _ H3 (x2.trans x3) (.int _)⟩
theorem g_forR {D : Ends} {ts tbd : TS} {g : TG} {N : Int} (Pv : Nat → L2.St → Hp → Prop) (h : ED K b ta σ H (.int N)) (n0 : -(2 ^ 62) ≤ N) (n1 : N < 2 ^ 62) (h0 : ∀ H1, Ex H H1 → Pv 0 σ H1)
    (hs : ∀ i σ H, i < N.toNat → Pv i σ H → g (.int (0 + i)) σ H fun σ2 H2 => tbd { D with nx := Pv (i + 1), ct := Pv (i + 1), bk := ts D } σ2 H2) (hd : ∀ σ H, Pv N.toNat σ H → ts D σ H) : tSeq (tFor (iRng1 (tCons ta tNil)) g tbd) ts D σ H :=
  h H (Ex.refl H) _ fun v H1 x1 hv => by
    have e := dq_int hv
    subst e
    exact ⟨N, rfl, n0, n1, for_range Pv (h0 H1 x1) hs hd⟩
/-- if ..: x = .., else as it was -/
theorem g_ifSet {tt : TT} {i : Nat} {c : Bool} {d : PyData} {old : V} (hc : EvT tt σ H c) (h1 : c = true → ∀ H1, Ex H H1 → ED K b te σ H1 d) (hσ : σ.set i (some old) = σ) (k : ∀ v H', Ex H H' → (c = true → Dq K b H' v d) → (c = false → v = old) → ts D (σ.set i (some v)) H') : tSeq (tIfS tt (tAsg te (gName i)) tNext) ts D σ H :=
  hc H (Ex.refl H) _ fun H1 x1 => by
    cases c with
    | true =>
      rw [if_pos rfl]
      exact h1 rfl H1 x1 H1 (Ex.refl H1) _ fun v H2 x2 hv => k v H2 (x1.trans x2) (fun _ => hv) fun e => nomatch e
    | false =>
      rw [if_neg Bool.false_ne_true]
      have := k old H1 x1 (fun e => nomatch e) fun _ => rfl
      rw [hσ] at this
      exact this
theorem g_setN {i : Nat} {d : PyData} (h : ED K b te σ H d) (k : ∀ v H', Ex H H' → Dq K b H' v d → D.nx (σ.set i (some v)) H') : tAsg te (gName i) D σ H := h H (Ex.refl H) _ fun v H' x hv => k v H' x hv
end
section
variable {P : Program} {w : World} {K : PySem.W.Frag} {mg : Str → Option Value} {base : Heap} {f g g2 : Addr} {fd gd gd2 : FuncData}
theorem ok_bag (D : Def K mg "_law_bag" s_bag ["_law_script", "_law_at"] f fd) (B : Blt mg) (B2 : Blt2 mg) : FnOk P w K mg base CX0 1 f fd ["_law_script", "_law_at"] (spBag K) := by
  refine D.F.ok sc_bag (fun vs H Q E ⟨b, ns, k, _, hd, _⟩ => by rw [dps_len hd]; rfl) (fun cdv A outer s H vs Q E hr h => ?_)
  obtain ⟨b, ns, k, kn, hd, k0, k1, hl, q⟩ := h
  obtain ⟨v, v2, d, d2, rfl, ed, h1, h2⟩ := two_of hd rfl
  cases ed
  have e2 := dq_int h2
  subst e2
  refine ⟨_, pss_cons (ps_set (i := 2) sc_bag.nd rfl (Or.inl rfl) pe_int)
    (pss_cons (ps_if (pt_cmpR op_lt (pv 1) (pe_callB call_lenD1 rfl B.len bb_len (pa_cons (pv 0) pa_nil)) (nomark _)) (pss_one (ps_set (i := 2) sc_bag.nd rfl (Or.inl rfl) (pe_callB call_absB rfl B2.abs bb_abs (pa_cons (pe_ix ix_list (pv 0) (pv 1) (fun _ _ => rfl)) pa_nil)))) pss_nil)
    (pss_cons (ps_set (i := 3) sc_bag.nd rfl (Or.inl rfl) (pe_op op_mod (pe_op op_powW (pe_op op_add (pe_op op_add (pe_op op_mod (pv 2) pe_int) (pe_op op_mul pe_int (pv 1))) pe_int) pe_int) pe_int))
    (pss_cons (ps_for PassesOwn.never rfl (pi_range1 rfl B.range (pa_cons (pe_callB (cr_min2 rfl) rfl B2.min bb_min (pa_cons (pe_callB call_lenD1 rfl B.len bb_len (pa_cons (pv 0) pa_nil)) (pa_cons pe_int pa_nil))) pa_nil)) (pg_name (i := 4) sc_bag.nd rfl (Or.inl rfl))
      (pss_one (ps_set (i := 3) sc_bag.nd rfl (Or.inl rfl) (pe_op op_mod (pe_op op_add (pe_op op_add (pe_op op_mul (pv 3) pe_int) (pe_op op_mul (pe_op op_mod (pe_ix ix_list (pv 0) (pv 4) (fun _ _ => rfl)) pe_int) (pe_op op_add (pv 4) pe_int))) (pv 4)) pe_int))))
    (pss_cons (ps_if (pt_cmpR op_lt (pv 2) (pe_op op_pow pe_int pe_int) (nomark _)) (pss_one (ps_set (i := 2) sc_bag.nd rfl (Or.inl rfl) pe_int)) pss_nil)
    (pss_one (ps_ret (pe_lst (pa_cons (pv 2) (pa_cons (pv 3) pa_nil))))))))), ?_⟩
  have hsl : sizeLine = 16777216 := sizeLine_eq
  have hD : ∀ {H'}, Ex H H' → Dq K b H' v (.list (ns.map .int)) := fun {H'} x => Dq.up h1 x
  have ll : (lenD (.list (ns.map PyData.int)) : Nat) = ns.length := List.length_map ..
  have fin : ∀ (c m : Int) (y4 : Option V) (H1 : Hp), Ex H H1 → 0 ≤ c → 0 ≤ m → m < 2147483648 → tRet (tLst (tCons (tVar 2) (tCons (tVar 3) tNil))) { nx := fun _ H' => Q .non H', rt := Q } [some v, some (.int k), some (.int c), some (.int m), y4] H1 := fun c m y4 H1 x1 c0 m0 m1 => by
    refine ⟨.int c, rfl, .int m, rfl, by show 2 ≤ sizeLine; decide, fun p hp => q p _ ?_ (x1.trans (Ex.new hp)) ⟨c, m, upd_same, c0, m0, m1⟩⟩
    cases z : H p with
    | none => rfl
    | some o => rw [x1 _ _ z] at hp; cases hp
  have pw : ∀ {σ'} {H'}, ED K b (tOp (rI CPow fun i j => .int (i ^ j.toNat)) (tC (.int 10)) (tC (.int 18))) σ' H' (.int 1000000000000000000) := fun {_ _} => ed_I ed_int ed_int ⟨by decide, by decide, by decide⟩ fun _ => .int _
  refine g_set (ed_int (K := K) (b := b) (i := 0)) fun v0 H0 x0 hv0 => ?_
  have e0 := dq_int hv0
  subst e0
  have lt := et_t (ed_lt (K := K) (b := b) (ed_var (σ := [some v, some (.int k), some (.int 0), none, none]) (i := 1) (d := .int k) rfl (.int k)) (ed_len (ed_var (i := 0) rfl (hD x0)) (.inr (.inl rfl)) fun y e => by cases e))
  rw [ll] at lt
  refine g_ifSet (K := K) (b := b) (i := 2) (old := .int 0) (d := .int (if ns.getD k.toNat 0 < 0 then -(ns.getD k.toNat 0) else ns.getD k.toNat 0)) lt (fun hc H1 x1 => ed_abs (ed_ixL (ed_var (i := 0) rfl (hD (x0.trans x1))) (ed_var (i := 1) (d := .int k) rfl (.int k)) ?_)) rfl fun vc H1 x1 hyes hno => ?_
  · have hk := of_decide_eq_true hc
    have ek : k = ((k.toNat : Nat) : Int) := (Int.toNat_of_nonneg k0).symm
    rw [ek]
    refine atI_nat ?_
    rw [List.getElem?_map, List.getElem?_eq_getElem (by omega)]
    simp only [Int.toNat_natCast, List.getD_eq_getElem?_getD, List.getElem?_eq_getElem (show k.toNat < ns.length by omega), Option.getD_some, Option.map_some]
  obtain ⟨c, ec, c0⟩ : ∃ c : Int, vc = .int c ∧ 0 ≤ c := by
    cases hz : decide (k < ((ns.length : Nat) : Int)) with
    | true => exact ⟨_, dq_int (hyes hz), by split <;> omega⟩
    | false => exact ⟨0, hno hz, by decide⟩
  subst ec
  have xx1 := x0.trans x1
  have m0 := Int.emod_nonneg c (show (2147483629 : Int) ≠ 0 by decide)
  have m1 := Int.emod_lt_of_pos c (show (0 : Int) < 2147483629 by decide)
  refine g_set (ed_mod (K := K) (b := b) (ed_powW (ed_add (ed_add (ed_mod (ed_var (σ := [some v, some (.int k), some (.int c), none, none]) (i := 2) (d := .int c) rfl (.int c)) (ed_int (i := 2147483629)) (by decide)) (ed_mul (ed_int (i := 104729)) (ed_var (i := 1) (d := .int k) rfl (.int k)) (.inl (by decide)))) (ed_int (i := 17))) (ed_int (i := 5)) ⟨by decide, by decide, Nat.lt_of_lt_of_le (show (c % 2147483629 + 104729 * k + 17).natAbs < 2 ^ 40 by omega) (by decide)⟩) (ed_int (i := 2147483647)) (by decide)) fun vm H2 x2 hvm => ?_
  have em := dq_int hvm
  subst em
  have q0 := Int.emod_nonneg ((c % 2147483629 + 104729 * k + 17) ^ (5 : Int).toNat) (show (2147483647 : Int) ≠ 0 by decide)
  have q1 := Int.emod_lt_of_pos ((c % 2147483629 + 104729 * k + 17) ^ (5 : Int).toNat) (show (0 : Int) < 2147483647 by decide)
  generalize (c % 2147483629 + 104729 * k + 17) ^ (5 : Int).toNat % 2147483647 = mx at q0 q1
  have xx2 := xx1.trans x2
  have cnt := ed_min2 (K := K) (b := b) (ed_len (ed_var (σ := [some v, some (.int k), some (.int c), some (.int mx), none]) (i := 0) rfl (hD xx2)) (.inr (.inl rfl)) fun y e => by cases e) (ed_int (i := 60))
  rw [ll] at cnt
  have cb : 0 ≤ (if (60 : Int) < ((ns.length : Nat) : Int) then (60 : Int) else ((ns.length : Nat) : Int)) ∧ (if (60 : Int) < ((ns.length : Nat) : Int) then (60 : Int) else ((ns.length : Nat) : Int)) ≤ 60 ∧ (if (60 : Int) < ((ns.length : Nat) : Int) then (60 : Int) else ((ns.length : Nat) : Int)) ≤ ns.length := by
    split <;> omega
  generalize (if (60 : Int) < ((ns.length : Nat) : Int) then (60 : Int) else ((ns.length : Nat) : Int)) = N at cnt cb
  refine g_forR (Pv := fun i σ' H' => (∃ (m : Int) (y4 : Option V), σ' = [some v, some (.int k), some (.int c), some (.int m), y4] ∧ 0 ≤ m ∧ m < 2147483648) ∧ Ex H H') cnt (by omega) (by omega) (fun H3 x3 => ⟨⟨mx, none, rfl, q0, by omega⟩, xx2.trans x3⟩) ?_ ?_
  · intro i σ' H' hi ⟨⟨m, y4, eσ, h0, h1'⟩, xH⟩
    subst eσ
    have hi' : i < ns.length := by omega
    have at_ : atI (ns.map PyData.int) (0 + (i : Int)) = some (.int ns[i]) := by
      rw [show (0 + (i : Int)) = ((i : Nat) : Int) from Int.zero_add _]
      refine atI_nat ?_
      rw [List.getElem?_map, List.getElem?_eq_getElem hi']
      rfl
    refine g_setN (ed_mod (K := K) (b := b) (ed_add (ed_add (ed_mul (ed_var (σ := [some v, some (.int k), some (.int c), some (.int m), some (.int (0 + (i : Int)))]) (i := 3) (d := .int m) rfl (.int m)) (ed_int (i := 48271)) (.inr ⟨by decide, by decide⟩)) (ed_mul (ed_mod (ed_ixL (ed_var (i := 0) rfl (hD xH)) (ed_var (i := 4) (d := .int (0 + (i : Int))) rfl (.int _)) at_) (ed_int (i := 2147483587)) (by decide)) (ed_add (ed_var (i := 4) (d := .int (0 + (i : Int))) rfl (.int _)) (ed_int (i := 3))) (.inr ⟨by omega, by omega⟩))) (ed_var (i := 4) (d := .int (0 + (i : Int))) rfl (.int _))) (ed_int (i := 2147483629)) (by decide)) fun vm H3 x3 hvm => ?_
    have em := dq_int hvm
    subst em
    exact ⟨⟨_, _, rfl, Int.emod_nonneg _ (by decide), Int.lt_trans (Int.emod_lt_of_pos _ (by decide)) (by decide)⟩, xH.trans x3⟩
  · intro σ' H' ⟨⟨m, y4, eσ, h0, h1'⟩, xH⟩
    subst eσ
    refine g_ifSet (K := K) (b := b) (i := 2) (old := .int c) (d := .int 0) (et_t (ed_lt (K := K) (b := b) (ed_var (i := 2) (d := .int c) rfl (.int c)) pw)) (fun _ _ _ => ed_int) rfl fun vc H3 x3 hyes hno => ?_
    obtain ⟨c', ec, c0'⟩ : ∃ c' : Int, vc = .int c' ∧ 0 ≤ c' := by
      cases hz : decide (c < 1000000000000000000) with
      | true => exact ⟨_, dq_int (hyes hz), by decide⟩
      | false => exact ⟨c, hno hz, c0⟩
    subst ec
    exact fin c' m y4 H3 (xH.trans x3) c0' h0 h1'
end
end Wr

set_option Elab.async false
set_option linter.all false
set_option maxRecDepth 100000
set_option maxHeartbeats 4000000
namespace Wr
open PySem PySem.Spec PyProof.Rows L2 Evl
/-! ### how long data are when shown -/
theorem str_shown {x : Str} (h : PyData.strOk x = true) : (reprText x).length ≤ 10 * x.length + 2 := by
  refine StrLaws.reprText_len x fun c hc => ?_
  have h' : x.cps.all (· < 0x110000) = true := h
  obtain ⟨i, hi, e⟩ := List.mem_iff_getElem.mp hc
  have h2 := Array.all_eq_true.mp h' i (by simpa using hi)
  have e' : x.cps[i]'(by simpa using hi) = c := by simpa using e
  rw [e'] at h2
  have : (c : Nat) < 0x110000 := of_decide_eq_true h2
  have h3 : (0x110000 : Nat) < 16 ^ 8 := by decide
  omega
theorem all_shown {ds : List PyData} (h : ∀ d ∈ ds, d.shown.length ≤ szD d) : ((PyData.shownAll ds).map (·.length)).sum + 2 * (PyData.shownAll ds).length ≤ szAll ds := by
  induction ds with
  | nil => simp only [PyData.shownAll, szAll, List.map_nil, List.sum_nil, List.length_nil]; omega
  | cons d r ih =>
    have h1 := h d List.mem_cons_self
    have h2 := ih fun e he => h e (List.mem_cons_of_mem _ he)
    simp only [PyData.shownAll, szAll, List.map_cons, List.sum_cons, List.length_cons]
    omega
theorem shown_sz : ∀ (n : Nat) (d : PyData), okD n d = true → d.shown.length ≤ szD d
  | _, .none, _ => by simp only [PyData.shown, szD]; decide
  | _, .bool b, _ => by
    simp only [PyData.shown, szD]
    cases b <;> decide
  | n, .int i, h => by
    have h' : decide (i.natAbs < 10 ^ 45) = true := by cases n <;> exact h
    simp only [PyData.shown, szD]
    exact int_text_len_1921 (log_small (of_decide_eq_true h'))
  | n, .str x, h => by
    have h' : (PyData.strOk x && decide (x.length ≤ 1000)) = true := by cases n <;> exact h
    simp only [PyData.shown, szD]
    exact str_shown (Bool.and_eq_true_iff.mp h').1
  | 0, .list ds, h => by cases h
  | 0, .tuple ds, h => by cases h
  | 0, .dict _, h => by cases h
  | _ + 1, .dict _, h => by cases h
  | n + 1, .list ds, h => by
    have q := all_shown fun d hd => shown_sz n d (ok_itemsL h d hd)
    have q2 := listText_len_le (PyData.shownAll ds)
    simp only [PyData.shown, szD]
    omega
  | n + 1, .tuple ds, h => by
    have q := all_shown fun d hd => shown_sz n d (ok_items h d hd)
    have q2 := tupleText_len_le (PyData.shownAll ds)
    simp only [PyData.shown, szD]
    omega
/-! ### repr, where nothing is being shown -/
def rRepr (K : PySem.W.Frag) : List V → Hp → VK → Prop := fun xs H Q => ∃ x d, xs = [x] ∧ Dp K H x d ∧ okD 30 d = true ∧ szD d ≤ 16000000 ∧ Q (.str d.shown) H
theorem call_reprD {X : Cx} (hg : X.A.guards = some []) (hu : X.A.units + 64 < cLine) : CallR X (.builtin "repr") (rRepr X.K) := by
  intro pins s σ H xs us Q I r ⟨x, d, e, hd, ho, hz, q⟩
  subst e
  obtain ⟨u, rfl, rx⟩ := vals1 r
  obtain ⟨f1, f2, f3⟩ := ok_facts 30 d ho
  have hsl : sizeLine = 16777216 := sizeLine_eq
  have hsz : d.shown.length ≤ sizeLine := by
    have := shown_sz 30 d ho
    omega
  obtain ⟨as, rd⟩ := Dp.reads I d x u hd rx
  cases hd with
  | non =>
    cases rx
    simp only [PyData.shown] at q
    exact PySem.P.repr_of_none ⟨.str _, H, I.tok _, ⟨_, rfl⟩, q⟩
  | bl c =>
    cases rx
    simp only [PyData.shown] at q
    refine PySem.P.repr_of_bool ⟨.str _, H, I.tok _, ⟨_, rfl⟩, ?_⟩
    cases c <;> exact q
  | int i =>
    obtain ⟨t, rfl⟩ := rx
    simp only [PyData.shown] at q
    exact PySem.P.repr_of_int (by simpa [PyData.showable] using f3) ⟨.str _, H, I.tok _, ⟨_, rfl⟩, q⟩
  | str y =>
    obtain ⟨t, rfl⟩ := rx
    simp only [PyData.shown] at q hsz
    exact PySem.P.repr_of_str ⟨.str _, H, I.tok _, ⟨_, rfl⟩, q⟩ hsz
  | lst h1 h2 =>
    cases rx
    exact repr_of_reads' rd f3 (PyData.noDict_hsm (PyData.hasDict_of_canLay _ f1)) hg (by omega) (fun _ _ e => e) (fun h' t tk kp => ⟨.str _, H, I.kept (t' := tk) kp, ⟨_, rfl⟩, q⟩) hsz
  | tup h1 h2 =>
    cases rx
    exact repr_of_reads' rd f3 (PyData.noDict_hsm (PyData.hasDict_of_canLay _ f1)) hg (by omega) (fun _ _ e => e) (fun h' t tk kp => ⟨.str _, H, I.kept (t' := tk) kp, ⟨_, rfl⟩, q⟩) hsz
/-! ### defs that are called where nothing is being shown -/
structure FnG (P : Program) (w : World) (K : PySem.W.Frag) (mg : Str → Option Value) (base : Heap) (k : Nat) (f : Addr) (fd : FuncData) (ps : List Str) (sp : Sp) : Prop where
  len : ∀ vs H Q E, sp vs H Q E → vs.length = ps.length
  go : ∀ (A : Around) (outer : List Env) (s : Shared) (H : Hp) (args : Args) (us : List Value) (vs : List V) (Q : VK) (E : XK), A.guards = some [] → Room k A → Env0 P w K mg base A outer s H → BindsTo s fd args (ps.zip us) → Vals vs us → sp vs H Q E →
    codeAny (model P w) A (.call (.ref f) args) (CR CX0 outer P w H s Q E) s
theorem deeper_guards {A : Around} {env : Env} (h : A.guards = some []) : (A.deeper env).guards = some [] := by
  first
    | exact h
    | simpa [Around.deeper] using h
section
variable {X : Cx} {k : Nat} {f : Addr} {fd : FuncData} {ps : List Str} {sp : Sp} {x : Str} {st : Stmt} {p pos : Pos} {e : Expr} {es : List Expr} {t : TA}
theorem pe_cdG (D : Def X.K X.mg x st ps f fd) (G : FnG X.prog X.w X.K X.mg X.base k f fd ps sp) (hg : X.A.guards = some []) (hr : Room k X.A) (ha : PA X (e :: es) t) (hgl : Gl X x := by rfl) (hdb : (x == ("__debug__" : Str)) = false := by decide)
    (he : starEach (e :: es) X.env = (false, eval e X.env) :: starEach es X.env := by rfl) (hpl : (backTo pos (starEach es X.env)).any (·.1) = false := by rfl) : PE X (.Call (.Name x p) (e :: es) [] pos) (tCall sp [] E0 t) :=
  ⟨fun pins s σ H Q I h => wpAny_Call_Name_kw (ld_glob I hgl D.m (PySem.W.callWith_K (h₀ := X.base) I.ok.mod.kin D.F.kp (thn (ha.run pos pins s σ H _ I h) fun us s1 ⟨vs, H1, I1, r, q⟩ => ⟨I1.kIn, by
    have q : sp (vs ++ []) H1 Q E0 := q
    rw [List.append_nil] at q
    have hl : (us ++ []).length = ps.length := by rw [List.append_nil, ← r.length]; exact G.len _ _ _ _ q
    have hb := D.b s1 us I1.kIn hl
    rw [List.append_nil] at hb
    refine wpAny_call (codeAny_mono (G.go X.A X.stack s1 H1 ⟨us, []⟩ us vs Q E0 hg hr I1.env0 hb r q) fun res s' hq => ?_)
    rcases res with e' | fl
    · exact hq.elim
    · rcases fl with _ | _ | _ | u
      all_goals first | exact I1.after hq | exact False.elim hq⟩) he hpl) hdb)⟩
end
section
variable {P : Program} {w : World} {K : PySem.W.Frag} {mg : Str → Option Value} {base : Heap}
/-- a def by its body, called where nothing is being shown -/
theorem Def.okG {x : Str} {st : Stmt} {f : Addr} {fd : FuncData} {N ps : List Str} {k : Nat} {sp : Sp} (D : Def K mg x st ps f fd) (S : FnScope N ps (defScope st)) (len : ∀ vs H Q E, sp vs H Q E → vs.length = ps.length)
    (hbody : ∀ (cdv : Value) (A : Around) (outer : List Env) (s : Shared) (H : Hp) (vs : List V) (Q : VK) (E : XK), (A.deeper (envOfC x (defScope st) s.heap.objs.size f cdv)).guards = some [] → Room k (A.deeper (envOfC x (defScope st) s.heap.objs.size f cdv)) → sp vs H Q E →
      ∃ t, PSs (cxOf CX0 P w K mg base N x (defScope st) f cdv A outer s H E).nox (defBody st) t ∧ t { nx := fun _ H' => Q .non H', rt := Q } (start N vs) H) : FnG P w K mg base (k + 1) f fd ps sp := by
  obtain ⟨oc, od, kV, doc, pm, an, cdv, ct, osl, rfl, lk, hcd⟩ := D.F.ex
  refine ⟨len, fun A outer s H args us vs Q E hgu hr e0 hb rv hsp => ?_⟩
  have keep := fun b o e => (e0.bs b o e).1
  have inS := e0.mod.kin.keeps keep
  refine codeAny_call_function hr.depth (inS _ _ lk) rfl S.co S.gen rfl (PySem.W.codeRec_of inS hcd) (hb _ _ _ _ (wpAny_newFunctionEnv_cells S.kind (fun y hy => ?_) fun env he s1 ic => ?_))
  · rcases S.par y.1 (List.of_mem_zip hy).1 with z | z
    · exact Or.inl z
    · exact Or.inr ⟨z, PySem.W.cellsFrom_some _ _ _ (Or.inl z)⟩
  · subst he
    refine ⟨(e0.mod.nolimit.keeps keep).keeps ic.toInCall.keep, codeAny_func ?_⟩
    obtain ⟨t, ht, hq⟩ := hbody cdv A outer s H vs Q E (deeper_guards hgu) (hr.deeper _) hsp
    have I := inv_start (CX := CX0) (mg := mg) (E := E) S hr.hd e0 (len _ _ _ _ hsp) rv ic
    refine wpAny_mono (ht.nox.run [] s1 _ H _ I hq) (fun fl s' hs => ?_) fun _ _ hs => hs
    rcases fl with _ | _ | _ | u
    all_goals first
      | (obtain ⟨v, σ', H', J, r', q'⟩ := hs; exact ⟨v, H', J.os, J.bare, J.base, J.hok, r', q'⟩)
      | (obtain ⟨σ', H', J, q'⟩ := hs; exact ⟨V.non, H', J.os, J.bare, J.base, J.hok, rfl, q'⟩)
      | (obtain ⟨_, _, _, q'⟩ := hs; exact False.elim q')
end
def spLaw (K : PySem.W.Frag) : Sp := fun vs H Q _ => ∃ (a : Addr) (ns : List Int), vs = [.ref a] ∧ SqL K H a (ns.map V.int) ∧ ns.length ≤ 1000 ∧ ∀ H', Q (.bl true) H'
theorem hid_nil (H : Hp) : hid [] H = H := by
  funext a
  exact hid_ne (by intro z; cases z)
theorem ints_dps {K : PySem.W.Frag} {H : Hp} : ∀ ns : List Int, DdAll K H (ns.map V.int) (ns.map PyData.int)
  | [] => .nil
  | n :: ns => .cons (.int n) (ints_dps ns)
theorem ex_exb {p : Addr} {H H1 H2 : Hp} (hp : H p = none) (x : Ex H H1) (y : ExB p H1 H2) : Ex H H2 := fun c o h => y c o (fun z => by rw [z, hp] at h; cases h) (x c o h)
/-! ### the law called where nothing is being shown -/
abbrev lstO (vs : List Value) : Obj := { cls := .type "list", data := .seq vs.toArray }
section
variable {P : Program} {w : World} {K : PySem.W.Frag} {mg mb : Str → Option Value} {k : Nat} {fa a : Addr} {fd : FuncData} {x : Str} {sp : Sp} {s : Shared} {vs : List Value} {ns : List Int}
/-- what the call leaves -/
def Left (s : Shared) (r : Result) (s' : Shared) : Prop := r = .ok (.ret (.bool true)) ∧ OldK s.heap s'.heap ∧ s'.os = s.os ∧ AllBare s'.gens
theorem law_from {H : Hp} (KX : K.In s.heap) (hm : s.heap.Ns mainGlobals mg) (hb : s.heap.Ns builtinsNs mb) (hbb : ∀ x : Str, x ≠ "__name__" → mb x = bootBuiltins x) (hlim : s.heap.NoLimit) (hge : s.gens = #[]) (ha : s.heap.get? a = some (lstO vs)) (hr : Room k callerA)
    (F : ∀ base : Heap, K.In base → base.Ns mainGlobals mg → FnG P w K mg base k fa fd [x] sp) (hbind : ∀ (s : Shared) (u : Value), BindsTo s fd ⟨[u], []⟩ [(x, u)]) (hsp : sp [.ref a] H (fun v _ => v = .bl true) fun _ _ _ => False) (hok : HOk P w H s.heap)
    (hA : ∀ c, H c = none ∨ (c = a ∧ K.lookup c = none ∧ ∃ xs, H c = some (.frz (lstO vs) (.lst xs)))) : codeAny (model P w) callerA (.call (.ref fa) ⟨[.ref a], []⟩) (Left s) s := by
  have nsOf : ∀ {c : Addr} {m : Str → Option Value}, s.heap.Ns c m → (hidT s.heap H).Ns c m := fun {c m} ⟨o, es, ep, e, d, r⟩ => by
    refine ⟨o, es, ep, hidT_get e ?_, d, r⟩
    rcases hA c with z | ⟨rfl, _⟩
    · exact z
    · rw [ha] at e
      cases e
      cases d
  have inB : K.In (hidT s.heap H) := fun c o e => hidT_get (KX c o e) (by
    rcases hA c with z | ⟨_, z, _⟩
    · exact z
    · rw [z] at e; cases e)
  have hM : Mod K mg (hidT s.heap H) := ⟨inB, nsOf hm, ⟨mb, nsOf hb, hbb⟩, let ⟨mc, h1, h2⟩ := hlim; ⟨mc, nsOf h1, h2⟩⟩
  have env : Env0 P w K mg (hidT s.heap H) callerA [] s H := ⟨rfl, hM, fun _ _ e => of_hidT e, Nat.le_of_eq (hidT_size _ _), trivial, (fun _ z => nomatch z), hok, .of_eq hge⟩
  refine codeAny_mono ((F _ inB (nsOf hm)).go callerA [] s H ⟨[.ref a], []⟩ [.ref a] [.ref a] _ _ rfl hr env (hbind s (.ref a)) (.cons rfl .nil) hsp) fun r s' h => ?_
  rcases r with e | fl
  · exact h.elim
  rcases fl with _ | _ | _ | u
  all_goals try exact False.elim h
  obtain ⟨v, H', os, bare, un, hok', r', q⟩ := h
  have q : v = .bl true := q
  subst q
  obtain rfl : u = Value.bool true := r'
  refine ⟨rfl, OldK.of_keep fun c o e => ?_, os, bare⟩
  rcases hA c with z | ⟨rfl, _, xs, z⟩
  · exact un.keep c o e z (fun y => nomatch y) (by simp)
  · obtain ⟨g1, _⟩ := hok c _ z
    obtain ⟨g2, _⟩ := hok' c _ (un.frzs c _ _ z)
    rw [e] at g1
    cases g1
    exact g2
theorem law_goG (KX : K.In s.heap) (hm : s.heap.Ns mainGlobals mg) (hb : s.heap.Ns builtinsNs mb) (hbb : ∀ x : Str, x ≠ "__name__" → mb x = bootBuiltins x) (hlim : s.heap.NoLimit) (hge : s.gens = #[]) (ha : s.heap.get? a = some (lstO vs)) (hi : IntsAre vs ns) (hl : ns.length ≤ sizeLine) (hr : Room k callerA)
    (F : ∀ base : Heap, K.In base → base.Ns mainGlobals mg → FnG P w K mg base k fa fd [x] sp) (hbind : ∀ (s : Shared) (u : Value), BindsTo s fd ⟨[u], []⟩ [(x, u)]) (hsp : ∀ H : Hp, SqL K H a (ns.map V.int) → sp [.ref a] H (fun v _ => v = .bl true) fun _ _ _ => False) : codeAny (model P w) callerA (.call (.ref fa) ⟨[.ref a], []⟩) (Left s) s := by
  have rv := vals_ints hi
  have ln := hi.length
  cases hk : K.lookup a with
  | some o =>
    have e := KX a o hk
    rw [ha] at e
    cases e
    refine law_from (H := fun _ => none) KX hm hb hbb hlim hge ha hr F hbind (hsp _ (.inr ⟨_, vs.toArray, _, hk, rfl, rfl, rfl, ?_, by simpa using rv⟩)) (fun c u z => nomatch z) fun _ => .inl rfl
    rw [List.size_toArray, ln]
    exact hl
  | none =>
    have at_a : (fun c => if c = a then some (HO.frz (lstO vs) (.lst (ns.map V.int))) else none : Hp) a = some (.frz (lstO vs) (.lst (ns.map V.int))) := if_pos rfl
    refine law_from (H := fun c => if c = a then some (.frz (lstO vs) (.lst (ns.map V.int))) else none) KX hm hb hbb hlim hge ha hr F hbind (hsp _ (.inl (.inr ⟨_, at_a⟩))) (fun c u z => ?_) fun c => ?_
    · by_cases e : c = a
      · subst e
        rw [at_a] at z
        cases z
        exact ⟨ha, by rw [List.length_map]; exact hl, vs, _, rv, ha⟩
      · have z' := (if_neg e).symm.trans z
        cases z'
    · by_cases e : c = a
      · subst e
        exact .inr ⟨rfl, hk, _, at_a⟩
      · exact .inl (if_neg e)
end

/-- a def that may raise, where it raises nothing -/
theorem FnOk.calm {P : Program} {w : World} {K : PySem.W.Frag} {mg : Str → Option Value} {base : Heap} {k : Nat} {f : Addr} {fd : FuncData} {ps : List Str} {sp : Sp} (F : FnOk P w K mg base (L2.CX P w) k f fd ps sp) : FnOk P w K mg base CX0 k f fd ps (fun vs H Q _ => sp vs H Q fun _ _ _ => False) :=
  ⟨fun vs H Q E h => F.len vs H Q _ h, fun A outer s H args us vs Q E hr e0 hb rv hsp => codeAny_mono (F.run A outer s H args us vs Q _ hr e0 hb rv hsp) fun r s' h => by
    rcases r with e | fl
    · obtain ⟨_, _, _, _, _, _, _, _, _, _, _, _, z⟩ := h
      exact z.elim
    · rcases fl with _ | _ | _ | u
      all_goals exact h⟩
end Wr

set_option Elab.async false
set_option linter.all false
set_option maxRecDepth 100000
set_option maxHeartbeats 4000000
namespace Wr
open PySem
/-! ### an own class of refusals over any built-in one: tl is that one's own line -/
abbrev keTail : List Value := [.type "KeyError", .type "LookupError", .type "Exception", .type "BaseException", .type "object"]
abbrev ieTail : List Value := [.type "IndexError", .type "LookupError", .type "Exception", .type "BaseException", .type "object"]
/-- by whom it is made: newId, of the class Bn -/
structure TailOk (tl : List Value) (Bn newId : String) : Prop where
  facts : ∃ initId bmB, ExcBaseFacts Bn newId initId bmB
  b : tl.contains (.type Bn) = true
  noA : tl.contains (.type "AttributeError") = false
  noN : tl.contains (.type "NameError") = false
  obj : tl.contains (.type "object") = true
  pass : ∀ self, refuseLoop self "__setattr__" tl = pure ()
theorem ke_tail : TailOk keTail "LookupError" "LookupError.__new__" := ⟨⟨_, _, F.excBase_LookupError⟩, by decide +kernel, by decide +kernel, by decide +kernel, by decide +kernel, fun _ => by kernel_rfl⟩
theorem ie_tail : TailOk ieTail "IndexError" "IndexError.__new__" := ⟨⟨_, _, F.excBase_IndexError⟩, by decide +kernel, by decide +kernel, by decide +kernel, by decide +kernel, fun _ => by kernel_rfl⟩
theorem own_contains {C : Addr} {tl : List Value} {X : String} {c : Bool} (h : tl.contains (.type X) = c) : (Value.ref C :: tl).contains (.type X) = c := by
  rw [List.contains_cons, h]
  exact Bool.false_or c
section
variable {prog : Program} {w : World} {A : Around} {E : Value → Shared → Prop} {R : Result → Shared → Prop} {h : Heap} {g : Array GenState} {d : Drawn} {t : Nat} {os : OsState}
variable {nm q : Str} {C N : Addr} {bs tl : List Value} {hdct : Bool} {sn : List Str} {sub : List Value} {ab : Bool} {col : Option Bool} {dd : Option Addr} {k0 k1 k2 k3 k5 : Option Value} {Bn newId : String}
theorem mk_check {M : Model} {args : List Value} {Q : Unit → Shared → Prop} (T : TailOk tl Bn newId) (hC : h.get? C = some (excClassObj nm q C N bs tl hdct sn sub ab col dd k0 k1 k2 k3 k5 newId)) (hq : Q () ⟨h, g, d, t, os⟩) :
    wpAny M A (checkBuiltinCall newId ⟨.ref C :: args, []⟩) Q E ⟨h, g, d, t, os⟩ := by
  obtain ⟨initId, bmB, Fb⟩ := T.facts
  have has := own_contains (C := C) T.b
  have nostar := Fb.noStar
  simp only [Fb.newKind, Fb.newSplit, Fb.newRow, checkBuiltinCall]
  repeat (first
    | refine wpAny_loadPart_at hC ?_
    | (refine wpAny_isSubtype_exc hC ?_; rw [has])
    | refine wpAny_staticBase_exc hC ?_
    | refine wpAny_madeBy_exc hC ?_
    | simp only [bne_self_eq_false, Bool.false_eq_true, if_false]
    | wp_step)
  exact hq
theorem mk_new {args : List Value} (T : TailOk tl Bn newId) (hC : h.get? C = some (excClassObj nm q C N bs tl hdct sn sub ab col dd k0 k1 k2 k3 k5 newId)) (hl : args.length ≤ sizeLine)
    (hq : R (.ok (.ret (.ref (h.objs.size + 1)))) ⟨(h.push (W.kdv_tup args)).push (HandSPX.excO C h.objs.size), g, d, t, os⟩) : codeAny (model prog w) A (.builtin newId ⟨.ref C :: args, []⟩) R ⟨h, g, d, t, os⟩ := by
  obtain ⟨initId, bmB, Fb⟩ := T.facts
  have ends := Fb.ends
  have has := own_contains (C := C) T.b
  have nA := own_contains (C := C) T.noA
  have nN := own_contains (C := C) T.noN
  have hrest := hl
  refine codeAny_builtinAt Fb.entry ?_
  unfold Builtin.«BaseException.__new__»
  refine wpAt_bind ?_
  show wpAt _ _ _ (stack >>= _) _ _ _
  refine wpAt_bind (wpAt_stack fun _ _ => wpAt_of_wpAny ?_)
  wp_walk
  refine wpAt_of_wpAny ?_
  rw [Fb.owner]
  repeat (first
    | with_reducible refine wpAny_madeHere_exc Fb.canon hC ?_
    | with_reducible refine wpAny_loadPart_at hC ?_
    | (with_reducible refine wpAny_isSubtype_exc hC ?_; first | rw [has] | rw [nA] | rw [nN])
    | wp_step)
  show R _ _
  rw [Heap.size_push]
  exact hq
theorem mk_type {args : List Value} {fI : Addr} {Q : Fin → Shared → Prop} (T : TailOk tl Bn newId) (hC : h.get? C = some (excClassObj nm q C N bs tl hdct sn sub ab col dd k0 k1 k2 k3 k5 newId)) (hl : args.length ≤ sizeLine)
    (hi : W.Looks (model prog w) h (typeLookup (.ref C) "__init__") (some (.ref fI))) (hb : ∀ self, W.Looks (model prog w) h (bindSpecial (.ref fI) self) (.ref fI, [self]))
    (hq : codeAny (model prog w) A (.call (.ref fI) ⟨.ref (h.objs.size + 1) :: args, []⟩) (fun r s' => match r with
      | .ok (.ret v) => v = .none ∧ Q (.done (.ret (.ref (h.objs.size + 1)))) s'
      | .ok _ => False
      | .error e => E e s') ⟨(h.push (W.kdv_tup args)).push (HandSPX.excO C h.objs.size), g, d, t, os⟩) : wpAny (model prog w) A (Builtin.«type.__call__» ⟨.ref C :: args, []⟩) Q E ⟨h, g, d, t, os⟩ := by
  have quiet := let ⟨_, _, Fb⟩ := T.facts; Fb.quiet
  repeat (first
    | with_reducible refine wpAny_loadPart_at hC ?_
    | with_reducible refine wpAny_madeBy_exc hC ?_
    | wp_step)
  refine codeAny_call_builtin_code (Code.quiet_builtin _ quiet) (mk_check T hC (mk_new T hC hl ?_))
  show wpAny _ _ _ _ _ _
  have stay : ∀ c o, h.get? c = some o → ((h.push (W.kdv_tup args)).push (HandSPX.excO C h.objs.size)).get? c = some o := fun c o z => Heap.get?_push_of_some _ (Heap.get?_push_of_some _ z)
  have at1 : ((h.push (W.kdv_tup args)).push (HandSPX.excO C h.objs.size)).get? (h.objs.size + 1) = some (HandSPX.excO C h.objs.size) := by heap_get
  have C1 := stay _ _ hC
  have own : (Value.ref C :: tl).contains (.ref C) = true := by simp
  have i1 := hi.keeps stay
  have b1 := (hb (.ref (h.objs.size + 1))).keeps stay
  unfold isInstance
  repeat (first
    | with_reducible refine wpAny_loadPart_at at1 ?_
    | (with_reducible refine wpAny_isSubtype_exc C1 ?_; rw [own])
    | wp_step)
  show wpAny _ _ (typeLookup (.ref C) _) _ _ _
  refine i1.at (wpAny_holding (wpAny_bind (b1.at (wpAny_bind (wpAny_call (codeAny_mono hq fun r s' z => ?_))))))
  rcases r with e | (v | _ | _ | _) <;> first | exact z | exact z.elim | skip
  obtain ⟨rfl, y⟩ := z
  first
    | exact wpAny_pure (wpAny_pure y)
    | (wp_walk; exact y)
/-- C(..), C's __init__ a def -/
theorem mk_call {args : List Value} {fI : Addr} (T : TailOk tl Bn newId) (hC : h.get? C = some (excClassObj nm q C N bs tl hdct sn sub ab col dd k0 k1 k2 k3 k5 newId)) (hl : args.length ≤ sizeLine)
    (hi : W.Looks (model prog w) h (typeLookup (.ref C) "__init__") (some (.ref fI))) (hb : ∀ self, W.Looks (model prog w) h (bindSpecial (.ref fI) self) (.ref fI, [self]))
    (hq : codeAny (model prog w) (A.under (.builtin "type.__call__" ⟨.ref C :: args, []⟩)) (.call (.ref fI) ⟨.ref (h.objs.size + 1) :: args, []⟩) (W.InitBack (h.objs.size + 1) R) ⟨(h.push (W.kdv_tup args)).push (HandSPX.excO C h.objs.size), g, d, t, os⟩) :
    codeAny (model prog w) A (.call (.ref C) ⟨args, []⟩) R ⟨h, g, d, t, os⟩ := by
  have look := tc_lookup
  have bind := tc_bind (.ref C)
  have ty : (⟨h, g, d, t, os⟩ : Shared).TypeIs (.ref C) "type" := ⟨_, hC, rfl⟩
  refine codeAny_of_tree ?_
  show wpAny _ _ (callAny (.ref C) _) _ _ _
  repeat (any_goals (first
    | assumption
    | with_reducible refine wpAny_loadPart_at hC ?_
    | wp_step))
  refine ⟨rfl, codeAny_call_builtin_at (Code.quiet_builtin _ (by decide +kernel)) entry_typeCall (wpAny_check_type_call_sub hC (mk_type T hC hl hi hb (codeAny_mono hq fun r s' z => ?_)))⟩
  rcases r with e | (v | _ | _ | _) <;> exact z
end
/-- B.__init__(e, ..) of such an exception: its args are laid anew, nothing else -/
def InitOk (tl : List Value) (newId initId : String) : Prop :=
  ∀ (prog : Program) (w : World) (A : Around) (R : Result → Shared → Prop) (h : Heap) (g : Array GenState) (d : Drawn) (t : Nat) (os : OsState) (nm q : Str) (C N : Addr) (bs : List Value) (hdct : Bool) (sn : List Str) (sub : List Value) (ab : Bool) (col : Option Bool) (dd : Option Addr) (k0 k1 k2 k3 k5 : Option Value) (e t0 : Addr) (args : List Value),
    h.get? C = some (excClassObj nm q C N bs tl hdct sn sub ab col dd k0 k1 k2 k3 k5 newId) → h.get? e = some (HandSPX.excO C t0) → args.length ≤ sizeLine →
    (∀ h' t1, (∀ b o, b ≠ e → h.get? b = some o → h'.get? b = some o) → h'.get? e = some (HandSPX.excO C t1) → R (.ok (.ret .none)) ⟨h', g, d, t, os⟩) → codeAny (model prog w) A (.call (.builtin initId) ⟨.ref e :: args, []⟩) R ⟨h, g, d, t, os⟩
theorem ie_init : InitOk ieTail "IndexError.__new__" "IndexError.__init__" := fun _ _ _ _ _ _ _ _ _ _ _ _ _ _ _ _ _ _ _ _ _ _ _ _ _ _ _ _ hC he hl hq => HandSPX.init_base F.excBase_IndexError (fun _ => rfl) hC he hl hq
theorem ke_entry : entryFor table "KeyError.__init__" = some Builtin.«BaseException.__init__» := by
  refine entryFor_alias (id' := "BaseException.__init__") ?_ ?_ ?_ ?_
  · rw [fastTable_eq_tree]
    kernel_rfl
  · first | rfl | decide +kernel
  · decide +kernel
  · rw [fastTable_eq_tree]
    kernel_rfl
theorem ke_check {M : Model} {A : Around} {E : Value → Shared → Prop} {h : Heap} {g : Array GenState} {d : Drawn} {t : Nat} {os : OsState} {nm q : Str} {C N : Addr} {bs : List Value} {hdct : Bool} {sn : List Str} {sub : List Value} {ab : Bool} {col : Option Bool} {dd : Option Addr} {k0 k1 k2 k3 k5 : Option Value} {newId : String} {e : Addr} {oe : Obj} {args : List Value} {Q : Unit → Shared → Prop}
    (hC : h.get? C = some (excClassObj nm q C N bs keTail hdct sn sub ab col dd k0 k1 k2 k3 k5 newId)) (he : h.get? e = some oe) (hcls : oe.cls = .ref C) (hq : Q () ⟨h, g, d, t, os⟩) : wpAny M A (checkBuiltinCall "KeyError.__init__" ⟨.ref e :: args, []⟩) Q E ⟨h, g, d, t, os⟩ := by
  have has : (Value.ref C :: keTail).contains (.type "KeyError") = true := own_contains (by decide +kernel)
  have e1 : builtinKind "KeyError.__init__" = builtinKind "IndexError.__init__" := by kernel_rfl
  have e2 : splitId "KeyError.__init__" = some ("KeyError", "__init__") := by kernel_rfl
  have e3 : Manifest.signature? "KeyError.__init__" = some ⟨.positional, "*", "KeyError", .self, [⟨"args", .varPos, false⟩]⟩ := by kernel_rfl
  have e4 := F.excBase_IndexError.initKind
  simp only [e1, e2, e3, e4, checkBuiltinCall]
  repeat (first
    | (with_reducible refine wpAny_loadPart_at he ?_; rw [hcls])
    | with_reducible refine wpAny_loadPart_at hC ?_
    | (with_reducible refine wpAny_isSubtype_exc hC ?_; rw [has])
    | wp_step)
  refine wpAny_onRaise ?_
  have ck : ∀ (a b : String) (n : Nat), Bind.check ⟨.positional, "*", "KeyError", .self, [⟨"args", .varPos, false⟩]⟩ a b n (List.map (fun x => x.fst) ({ pos := Value.ref e :: args } : Args).kw) = pure () := fun _ _ _ => check_star_args _ _ _ _ _ _
  rw [ck]
  exact wpAny_pure hq
theorem ke_init : InitOk keTail "LookupError.__new__" "KeyError.__init__" := fun prog w A R h g d t os nm q C N bs hdct sn sub ab col dd k0 k1 k2 k3 k5 e t0 args hC he hl hq => by
  have hrest := hl
  refine codeAny_call_builtin (by kernel_rfl) ke_entry (ke_check hC he rfl ?_)
  wp_walk
  refine hq _ h.objs.size (fun c o hc z => ?_) ?_
  · exact (Heap.get?_update_other _ _ (Ne.symm hc)).trans (Heap.get?_push_of_some _ z)
  · rw [Heap.get?_update_self _ (Heap.get?_push_of_some _ he) rfl]
    rfl
end Wr

set_option Elab.async false
set_option linter.all false
set_option maxRecDepth 100000
set_option maxHeartbeats 4000000
namespace Wr
open PySem PySem.Spec PyProof.Rows L2 Evl
/-! ### what the written part says of such a class -/
structure OexT (K : PySem.W.Frag) (C : Addr) (tl : List Value) (Bn newId : String) : Prop where
  tail : TailOk tl Bn newId
  cls : ∃ nm q N bs sn sub ab col dd k0 k1 k2 k3 k5, K.lookup C = some (excClassObj nm q C N bs tl true sn sub ab col dd k0 k1 k2 k3 k5 newId)
  sa : PySem.W.findIn K (.ref C) "__setattr__" = some (some (.builtin "object.__setattr__"))
  exC : PySem.W.subIn K (.ref C) (.type "BaseException") = some true
  tyC : PySem.W.typeIn K (.ref C) = some (.type "type")
  kC : PySem.W.keepIn K (.ref C) = true
section
open Builtin Builtin.ObjectAttr
variable {prog : Program} {w : World} {A : Around} {E : Value → Shared → Prop} {R : Result → Shared → Prop} {hp : Heap} {g : Array GenState} {d : Drawn} {t : Nat} {os : OsState}
/-- self.name = v, the first field -/
theorem set_first {K : W.Frag} {name : Str} {tk : Tok} {v : Value} {x C : Addr} {fv : Array Value} {cd : ClassData} {tl : List Value} {Bn newId : String} (T : TailOk tl Bn newId) (KX : K.In hp) (hx : hp.get? x = some { cls := .ref C, data := .fields fv }) (hcd : W.clsIn K C = some cd) (hm : cd.mro = .ref C :: tl) (hh : cd.hasDict = true)
    (hno : W.findIn K (.ref C) name = some none)
    (hq : ∀ h' tk' dx, (∀ b o, b ≠ x → hp.get? b = some o → h'.get? b = some o) → hp.objs.size ≤ dx → dx ≠ x → h'.get? x = some { cls := .ref C, dict := some dx, data := .fields fv } → h'.Ns1 dx (fun y => if y = name then some v else none) → R (.ok (.ret .none)) ⟨h', g, d, tk', os⟩) :
    codeAny (model prog w) A (.call (.builtin "object.__setattr__") ⟨[.ref x, .str name tk, v], []⟩) R ⟨hp, g, d, t, os⟩ := by
  have inst : W.InstAt hp x { cls := .ref C, data := .fields fv } C none := ⟨hx, rfl, rfl, trivial⟩
  have SO := F.store_object
  have hob : cd.mro.contains (.type "object") = true := by rw [hm]; exact own_contains T.obj
  have hem : cd.mro.isEmpty = false := by rw [hm]; rfl
  have far : x ≠ hp.objs.size := Nat.ne_of_lt (Heap.lt_size hx)
  have sub : W.Looks (model prog w) hp (isInstance (.ref x) (.type "object")) true := by
    refine inst.type.andThen (W.looks_mroIn KX ?_)
    unfold W.mroIn
    rw [hcd, Option.bind_some, if_neg (by rw [hem]; decide), hob]
  refine codeAny_call_builtin SO.slot.plain SO.entry (@W.check_slot (model prog w) _ _ ⟨hp, g, d, t, os⟩ "object.__setattr__" "object" "__setattr__" (.ref x) [.str name tk, v] [] _ SO.kind SO.split sub (SO.args _ _ _) ?_)
  have lcls : W.Looks (model prog w) hp (classData C) cd := W.looks_clsIn KX hcd
  have lmro : W.Looks (model prog w) hp (mroOf (.ref C)) cd.mro := lcls.andThen .now
  have ltk : W.Looks (model prog w) hp (storeTaker? none) none := .now
  rw [W.osa_eq, refuse_eq]
  refine wpAny_bind (wpAny_bind (inst.type.at (wpAny_bind (lmro.at ?_))))
  rw [hm, refuseLoop_ref, T.pass]
  refine wpAny_pure (wpAny_bind (inst.type.at (wpAny_bind ((W.looks_findIn KX hno).at (wpAny_bind (ltk.at ?_))))))
  show wpAny _ _ (storeInOwnDict (.ref x) (.ref C) (.str name tk) name v false) _ _ _
  obtain ⟨nm, bs, mro, ns, qn, hd, sn, sb, ab, col, del⟩ := cd
  dsimp only at hh
  subst hh
  unfold storeInOwnDict ownDictForStores
  repeat (first
    | with_reducible refine HandSPX.store_in_new ?_ ?_
    | with_reducible refine wpAny_loadPart_at hx ?_
    | with_reducible refine lcls.at ?_
    | wp_step)
  · exact ⟨_, #[], _, (Heap.get?_update_ne _ _ _ _ far.symm).trans (Heap.get?_push_at rfl rfl), rfl, fun e he => absurd he (by simp), fun _ => rfl⟩
  · intro h' tk' hn' hs
    have hx1 : (hp.push { cls := .type "dict", data := .dict #[] }).get? x = some { cls := .ref C, data := .fields fv } := Heap.get?_push_of_some _ hx
    exact hq h' tk' hp.objs.size (fun c o hc z => (hs.2 c (Nat.ne_of_lt (Heap.lt_size z))).trans ((Heap.get?_update_ne _ _ _ _ hc).trans (Heap.get?_push_of_some _ z))) (Nat.le_refl _) far.symm ((hs.2 x far).trans (Heap.get?_update_self _ hx1 rfl)) hn'
end
section
variable {X : Cx} {pins : List (Addr × Obj)} {σ : L2.St} {H : Hp} {s : Shared} {a C : Addr} {f : Str} {y : V} {u : Value} {A : Around} {E : Value → Shared → Prop} {tl : List Value} {Bn newId initId : String}
theorem ost_first {Q : Unit → Shared → Prop} (T : OexT X.K C tl Bn newId) (I : Inv X pins σ H s) (e : H a = some (exo a C none)) (hno : PySem.W.findIn X.K (.ref C) f = some none) (ry : RelV y u)
    (h : ∀ dx s', H dx = none → dx ≠ a → Inv X pins σ (upd (upd H dx (exd dx [(f, y)])) a (exo a C (some dx))) s' → Q () s') : wpAny (model X.prog X.w) A (setAttr (.ref a) f u) Q E s := by
  obtain ⟨nm, q, N, bs, sn, sub, ab, col, dd, k0, k1, k2, k3, k5, hC⟩ := T.cls
  have hcl : PySem.W.clsIn X.K C = some { name := nm, bases := bs, mro := .ref C :: tl, ns := N, qualname := q, hasDict := true, slotNames := sn, subclasses := sub, abstract := ab, collection := col, hasDel := false } := by
    unfold PySem.W.clsIn
    rw [hC] <;> rfl
  obtain ⟨t1, ho⟩ := exo_at I.hok e
  obtain ⟨hp, g, d, t, os⟩ := s
  refine PySem.W.set_plain I.kIn (ox := { cls := .ref C, dict := none, data := .fields #[.ref t1, .none, .none, .none, .bool false, .none] }) (od := none) ⟨ho, rfl, rfl, trivial⟩ T.sa (set_first T.tail I.kIn ho hcl rfl rfl hno fun h' tk' dx k dn dne hx hn => ?_)
  have free : H dx = none := I.hok.fresh dn
  have offd : ∀ {c : Addr} {o : Obj}, hp.get? c = some o → c ≠ dx := fun {c o} z => Nat.ne_of_lt (Nat.lt_of_lt_of_le (Heap.lt_size z) dn)
  have offa : ∀ {c : Addr}, H c = none → c ≠ a := fun {c} n z => by
    rw [z, e] at n
    cases n
  have U : Un X.fs [] H (upd (upd H dx (exd dx [(f, y)])) a (exo a C (some dx))) hp h' := {
    keep := fun c o z n _ _ => k c o (offa n) z
    slot := fun c o z n _ _ => ⟨o.slots, k c o (offa n) z⟩
    free := fun c o z n _ => by rw [upd_ne (offa n), upd_ne (offd z)]; exact n
    there := fun c o z _ => by
      by_cases hc : c = a
      · exact ⟨_, by rw [hc]; exact hx⟩
      · exact ⟨o, k c o hc z⟩
    tups := fun c xs z => by rw [upd_ne (at_ne e z exo_tup), upd_ne (ne_of_none z free)]; exact z
    frzs := fun c o v z => by rw [upd_ne (at_ne e z exo_frz), upd_ne (ne_of_none z free)]; exact z
    tbls := fun c ps z => ⟨#[], by rw [upd_ne (at_ne e z exo_tbl), upd_ne (ne_of_none z free), z]; simp⟩ }
  refine h dx _ free dne (I.un (t' := tk') U fun c o z => ?_)
  by_cases hc : c = a
  · subst hc
    rw [upd_same] at z
    cases z
    exact exo_ok hx
  · rw [upd_ne hc] at z
    by_cases hd : c = dx
    · subst hd
      rw [upd_same] at z
      cases z
      exact exd_ok hn (relO_put (fs := []) ry fun _ => True.intro)
    · rw [upd_ne hd] at z
      refine (I.hok c o z).stay (fun c' v hc' y => k c' v ?_ y) (fun c' hc' => ?_) (fun c' xs hc' => ?_)
      · rcases hc' with hc' | hc'
        · rw [hc']
          exact hc
        · exact at_ne e hc' exo_own
      · rw [upd_ne (at_ne e hc' exo_own), upd_ne (ne_of_none hc' free)]
        exact hc'
      · rw [upd_ne (at_ne e hc' exo_tup), upd_ne (ne_of_none hc' free)]
        exact hc'
theorem init_ok {us : List Value} {Q : Value → Shared → Prop} (T : OexT X.K C tl Bn newId) (hI : InitOk tl newId initId) (I : Inv X pins σ H s) (e : H a = some (exo a C none)) (hl : us.length ≤ sizeLine) (h : ∀ s', Inv X pins σ H s' → Q .none s') : wpAny (model X.prog X.w) A (call (.builtin initId) (.ref a :: us)) Q E s := by
  obtain ⟨nm, q, N, bs, sn, sub, ab, col, dd, k0, k1, k2, k3, k5, hC⟩ := T.cls
  obtain ⟨t1, ho⟩ := exo_at I.hok e
  obtain ⟨hp, g, d, t, os⟩ := s
  refine wpAny_call (hI _ _ _ _ _ _ _ _ _ _ _ _ _ _ _ _ _ _ _ _ _ _ _ _ _ _ _ _ (I.kIn _ _ hC) ho hl fun h' t2 k hx => ?_)
  have J := I.write (t' := t) (x := a) (e := a) (o := exo a C none) (by rw [e]; exact True.intro) (.inl rfl) k ⟨_, hx⟩ (exo_ok hx)
  have same : upd H a (exo a C none) = H := by
    funext c
    by_cases hc : c = a
    · rw [hc, upd_same, e]
    · exact upd_ne hc
  rw [same] at J
  exact h _ J
end
/-! ### rules -/
/-- B.__init__(self, ..) -/
def tBI (K : PySem.W.Frag) (tl : List Value) (Bn newId : String) (ta : TA) : TE := fun σ H Q => ta σ H fun vs H1 => ∃ (a C : Addr) (ws : List V), vs = .ref a :: ws ∧ ws.length ≤ 1000 ∧ OexT K C tl Bn newId ∧ H1 a = some (exo a C none) ∧ Q .non H1
/-- self.f = e, the first field -/
def tFst (K : PySem.W.Frag) (tl : List Value) (Bn newId : String) (f : Str) (to te : TE) : TS := fun D σ H => te σ H fun y H1 => to σ H1 fun x H2 => ∃ a C : Addr, x = .ref a ∧ OexT K C tl Bn newId ∧ PySem.W.findIn K (.ref C) f = some none ∧
  H2 a = some (exo a C none) ∧ ∀ dx, H2 dx = none → dx ≠ a → D.nx σ (upd (upd H2 dx (exd dx [(f, y)])) a (exo a C (some dx)))
section
variable {X : Cx} {o e : Expr} {es : List Expr} {to te : TE} {ta : TA} {f B : Str} {p p' p1 p2 pos : Pos} {tl : List Value} {Bn newId initId Bs : String}
theorem pe_binit {pl : Sem Bool} (hI : InitOk tl newId initId) (hg : Gl X B) (hm : X.mg B = none) (hv : bootBuiltins B = some (.type Bs)) (ht : typeOf (.type Bs) = pure (.type "type")) (hst : Manifest.isStub Bs = false) (hhd : PySem.W.handedIn (.builtin initId) = true) (hnn : B ≠ "__name__") (hdb : (B == ("__debug__" : Str)) = false)
    (vV : PySem.W.findCls X.K (.type Bs) (.type "type") "__init__" = some (.val (.builtin initId))) (ha : PA X (e :: es) ta)
    (hc : eval (.Call (.Attribute (.Name B p1) "__init__" p2) (e :: es) [] pos) X.env = (do
      let ov ← eval (.Name B p1) X.env
      standAt p2.atName
      let (f, first) ← holding [ov] (getMethod ov "__init__" pl)
      callWith pos f first (backTo pos (starEach (e :: es) X.env)) (backToKw pos (keywordEach [] X.env))) := by rfl)
    (he : starEach (e :: es) X.env = (false, eval e X.env) :: starEach es X.env := by rfl) (hpl : (backTo pos (starEach es X.env)).any (·.1) = false := by rfl) :
    PE X (.Call (.Attribute (.Name B p1) "__init__" p2) (e :: es) [] pos) (tBI X.K tl Bn newId ta) := by
  refine ⟨fun pins s σ H Q I h => PySem.W.methodCall_KW (ld_blt I hg hm hv ?_ hnn hdb) hc⟩
  obtain ⟨m, fr⟩ := I.fr
  refine PySem.W.method_type fr I.ok.mod.kin ht hst vV hhd ?_
  show wpAny _ _ (callWith pos (Value.builtin initId) [] (backTo pos (starEach (e :: es) X.env)) []) _ _ _
  refine PyProof.Rows.callWith_method1 (thn (ha.run pos pins _ σ H _ (I.tok _) h) fun us s1 ⟨vs, H1, I1, r1, a, C, ws, ev, hl, T, ea, q⟩ => ?_) he hpl
  subst ev
  cases r1 with
  | @cons _ u0 _ ur ra rr =>
    obtain rfl : u0 = Value.ref a := ra
    exact init_ok T hI I1 ea (by rw [← Paired.length rr, sizeLine_eq]; omega) fun s' J => ⟨.non, H1, J, rfl, q⟩
theorem ps_first (ho : PE X o to) (he : PE X e te) (hs : swapsWith e (some (.Attribute o f p')) pos.line X.env = pure false := by rfl) : PS X (.Assign [.Attribute o f p'] e pos) (tFst X.K tl Bn newId f to te) := by
  refine ⟨fun pins s σ H D I h => plainObj_wpAny_Assign_Attribute (thn (he.run pins s σ H _ I h) fun v s1 ⟨y, H1, I1, r1, q1⟩ => thn (ho.run pins s1 σ H1 _ I1 q1) fun u s2 ⟨x, H2, I2, r2, a, C, ex, T, hno, ea, q⟩ => ?_) hs⟩
  subst ex
  obtain rfl : u = Value.ref a := r2
  exact ost_first T I2 ea hno r1 fun dx s' n ne J => ⟨σ, _, J, q dx n ne⟩
/-- C(e, ..) as an exception that is raised -/
theorem pmk_t {CX : CXT} {x : Str} {C fI : Addr} {k : Nat} {fd : FuncData} {ps : List Str} {sp : Sp} (T : OexT X.K C tl Bn newId) (iC : PySem.W.findIn X.K (.ref C) "__init__" = some (some (.ref fI))) (tI : PySem.W.typeIn X.K (.ref fI) = some (.type "function"))
    (G : FnOk X.prog X.w X.K X.mg X.base CX k fI fd ps sp) (hr : Room (k + 1) X.A) (hb : Binds X.K fd ps []) (hx : Passes CX X (fun _ _ _ => False)) (hg : Gl X x) (hm : X.mg x = some (.ref C)) (ha : PA X (e :: es) ta)
    (hdb : (x == ("__debug__" : Str)) = false := by decide) (he : starEach (e :: es) X.env = (false, eval e X.env) :: starEach es X.env := by rfl) (hpl : (backTo pos (starEach es X.env)).any (·.1) = false := by rfl) :
    PMk X (.Call (.Name x p) (e :: es) [] pos) (tMkO C sp [] ta) := by
  intro pins s σ H Q I h
  obtain ⟨nm, q, N, bs, sn, sub, ab, col, dd, k0, k1, k2, k3, k5, hC⟩ := T.cls
  refine wpAny_Call_Name_kw (ld_glob I hg hm (PySem.W.callWith_K (h₀ := X.base) I.ok.mod.kin T.kC (thn (ha.run pos pins s σ H _ I h) fun us s1 ⟨vs, H1, I1, r1, hz, q1⟩ => ⟨I1.kIn, ?_⟩) he hpl) hdb)
  show wpAny _ _ (call (.ref C) us) _ _ _
  obtain ⟨hp, g, dr, tk, os⟩ := s1
  have up : hp.objs.size ≤ hp.objs.size + 1 := Nat.le_succ _
  have free : H1 (hp.objs.size + 1) = none := I1.hok.fresh up
  have hq := q1 _ free
  rw [List.append_nil] at hq
  have stay : ∀ c u, hp.get? c = some u → ((hp.push (PySem.W.kdv_tup us)).push (PySem.HandSPX.excO C hp.objs.size)).get? c = some u := fun c u z => Heap.get?_push_of_some _ (Heap.get?_push_of_some _ z)
  have at1 : ((hp.push (PySem.W.kdv_tup us)).push (PySem.HandSPX.excO C hp.objs.size)).get? (hp.objs.size + 1) = some (PySem.HandSPX.excO C hp.objs.size) := by heap_get
  have I2 : Inv X pins σ (upd H1 (hp.objs.size + 1) (exo (hp.objs.size + 1) C none)) ⟨(hp.push (PySem.W.kdv_tup us)).push (PySem.HandSPX.excO C hp.objs.size), g, dr, tk, os⟩ := I1.laid (t' := tk) stay up (exo_ok at1)
  have r2 : Vals (V.ref (hp.objs.size + 1) :: vs) (Value.ref (hp.objs.size + 1) :: us) := .cons rfl r1
  have hl : (Value.ref (hp.objs.size + 1) :: us ++ []).length = ps.length := by
    rw [List.append_nil, ← r2.length]
    exact G.len _ _ _ _ hq
  have hus : us.length ≤ sizeLine := by
    rw [← Paired.length r1, sizeLine_eq]
    omega
  have hb2 := hb ⟨(hp.push (PySem.W.kdv_tup us)).push (PySem.HandSPX.excO C hp.objs.size), g, dr, tk, os⟩ (Value.ref (hp.objs.size + 1) :: us) I2.kIn hl
  rw [List.append_nil] at hb2
  refine wpAny_call (mk_call T.tail (I1.kIn _ _ hC) hus (PySem.W.looks_findIn I1.kIn iC) (fun self => PySem.W.bind_fn I1.kIn self tI) (codeAny_mono (G.run _ X.stack _ _ ⟨Value.ref (hp.objs.size + 1) :: us, []⟩ _ _ _ (fun _ _ _ => False) (hr.make C us []) (I2.env0.make C us []) hb2 r2 hq) fun r s' hq' => ?_))
  rcases r with er | fl
  · exact hx pins σ _ _ er s' I2 hq'
  rcases fl with _ | _ | _ | u
  all_goals try exact False.elim hq'
  obtain ⟨v, H2, os2, bare2, un2, hok2, rv, ev, d, fs, ea, ed, hd1, q2⟩ := hq'
  subst ev
  obtain ⟨h2, g2, d2, t2, os'⟩ := s'
  exact ⟨rv, mk_end (raises_own T.exC T.tyC) I1 up stay un2 hok2 os2 bare2 ea ed hd1 q2⟩
end
end Wr

set_option Elab.async false
set_option linter.all false
set_option maxRecDepth 100000
set_option maxHeartbeats 4000000
namespace Wr
open PySem PySem.Spec PyProof.Rows L2 Evl
abbrev s_oo : Stmt := topS 10
abbrev s_on : Stmt := topS 11
theorem sc_on : FnScope ["op", "one", "other"] ["op", "one", "other"] (defScope s_on) := ⟨rfl, rfl, rfl, by decide +kernel, rfl, by decide +kernel, by decide +kernel⟩
theorem sc_oo : FnScope ["op", "one", "other", "number"] ["op", "one", "other"] (defScope s_oo) := ⟨rfl, rfl, rfl, by decide +kernel, rfl, by decide +kernel, by decide +kernel⟩
/-! ### ops -/
def opW : List Str := ["add", "less", "times", "over", "same", "below"]
def opN (o : Str) (i j : Int) : Int :=
  if o = "add" then i + j else if o = "less" then i - j else if o = "times" then i * j else if o = "over" then i.fdiv j else if o = "same" then (if i = j then 1 else 0) else if i < j then 1 else 0
/-- a fault's number, or the worth -/
def opR (o : Str) (i j : Int) : Int ⊕ Int :=
  if o = "over" ∧ j = 0 then .inl (-1) else if -1000000000000 ≤ opN o i j ∧ opN o i j ≤ 1000000000000 then .inr (opN o i j) else .inl (-2)
def outD : Int ⊕ Int → PyData
  | .inl f => .tuple [.int f, .none]
  | .inr w => .tuple [.none, .int w]
def Wth (i : Int) : Prop := -1000000000000 ≤ i ∧ i ≤ 1000000000000
def CDivS (i j : Int) : Prop := j ≠ 0 ∧ -1000000000000 ≤ j ∧ j ≤ 1000000000000
theorem op_fdivS {X : Cx} : OpR X (binaryOp .FloorDiv) (rI CDivS fun i j => .int (i.fdiv j)) := opI fun i j _ _ _ _ _ hc q => floordiv_int hc.1 q (.inl (PyProof.noPylong_of_log2 (by
  have h : j.natAbs < 2 ^ 41 := by
    have := hc.2
    omega
  have h0 : j.natAbs ≠ 0 := by
    have := hc.1
    omega
  have := (Nat.log2_lt h0).mpr h
  omega)))
theorem strEq (x y : Str) : PyData.eqv (.str x) (.str y) = decide (x = y) := by
  simp only [PyData.eqv]
  rfl
theorem opW_ok {o : Str} (h : o ∈ opW) : PyData.strOk o = true := by
  have q : opW.all PyData.strOk = true := by decide +kernel
  exact List.all_eq_true.mp q o h
section
variable {P : Program} {w : World} {K : PySem.W.Frag} {mg : Str → Option Value} {base : Heap} {f g g2 : Addr} {fd gd gd2 : FuncData}
def OpPre (ds : List PyData) : Prop := ∃ o i j, ds = [.str o, .int i, .int j] ∧ o ∈ opW ∧ Wth i ∧ Wth j
def opOf (F : Str → Int → Int → PyData) (ds : List PyData) : PyData := match ds with
  | [.str o, .int i, .int j] => F o i j
  | _ => .none
theorem ok_on (D : Def K mg "op_number" s_on ["op", "one", "other"] f fd) : FnOk P w K mg base CX0 1 f fd ["op", "one", "other"] (spP K (fun ds => ∃ o i j, ds = [.str o, .int i, .int j] ∧ o ∈ opW ∧ Wth i ∧ Wth j ∧ (o = "over" → j ≠ 0)) (opOf fun o i j => .int (opN o i j))) := by
  refine D.F.ok sc_on (fun vs H Q E h => spP_len (fun _ ⟨o, i, j, e, _⟩ => by rw [e]; rfl) h) (fun cdv A outer s H vs Q E hr h => ?_)
  obtain ⟨b, ds, kn, hd, ⟨o, i, j, rfl, ho, hi, hj, hov⟩, q⟩ := h
  cases hd with
  | @cons v1 _ _ _ h1 hd =>
  cases hd with
  | @cons v2 _ _ _ h2 hd =>
  cases hd with
  | @cons v3 _ _ _ h3 hd =>
  cases hd
  refine ⟨_, pss_cons (ps_if (pt_cmpR (op_eqD (hu64 hr)) (pv 0) pe_str (nomark _)) (pss_one (ps_ret (pe_op op_add (pv 1) (pv 2)))) pss_nil)
    (pss_cons (ps_if (pt_cmpR (op_eqD (hu64 hr)) (pv 0) pe_str (nomark _)) (pss_one (ps_ret (pe_op op_sub (pv 1) (pv 2)))) pss_nil)
    (pss_cons (ps_if (pt_cmpR (op_eqD (hu64 hr)) (pv 0) pe_str (nomark _)) (pss_one (ps_ret (pe_op op_mul (pv 1) (pv 2)))) pss_nil)
    (pss_cons (ps_if (pt_cmpR (op_eqD (hu64 hr)) (pv 0) pe_str (nomark _)) (pss_one (ps_ret (pe_op op_fdivS (pv 1) (pv 2)))) pss_nil)
    (pss_cons (ps_if (pt_cmpR (op_eqD (hu64 hr)) (pv 0) pe_str (nomark _)) (pss_one (ps_ret (pe_ifExp (pt_cmpR (op_eqD (hu64 hr)) (pv 1) (pv 2) (nomark _)) pe_int pe_int))) pss_nil)
    (pss_one (ps_ret (pe_ifExp (pt_cmpR op_lt (pv 1) (pv 2) (nomark _)) pe_int pe_int))))))), ?_⟩
  have te : ∀ (x : Str), PyData.strOk x = true → EvT (tTest (tOp (rEqD K) (tVar 0) (tC (.str x)))) (start ["op", "one", "other"] [v1, v2, v3]) H (decide (o = x)) := fun x hx => by
    have := et_t (ed_eq (K := K) (b := b) (ed_var (σ := start ["op", "one", "other"] [v1, v2, v3]) (i := 0) rfl h1) (ed_str (x := x)) (sh_str (opW_ok ho)) (sh_str hx))
    rw [strEq] at this
    exact this
  have e1 := ed_var (K := K) (b := b) (σ := start ["op", "one", "other"] [v1, v2, v3]) (i := 1) rfl h2
  have e2 := ed_var (K := K) (b := b) (σ := start ["op", "one", "other"] [v1, v2, v3]) (i := 2) rfl h3
  have teq := et_t (ed_eq e1 e2 (sh_int _) (sh_int _))
  rw [eqv_int] at teq
  have tlt := et_t (ed_lt e1 e2)
  refine SR.fin ((sr_if (te "add" (by decide +kernel)) (fun _ => sr_ret (ed_add e1 e2)) fun _ => sr_if (te "less" (by decide +kernel)) (fun _ => sr_ret (ed_sub e1 e2)) fun _ => sr_if (te "times" (by decide +kernel)) (fun _ => sr_ret (ed_mul e1 e2 (.inl ⟨by have := hi.1; omega, by have := hi.2; omega⟩)))
    fun _ => sr_if (te "over" (by decide +kernel)) (fun h => sr_ret (ed_I (C := CDivS) e1 e2 ⟨hov (of_decide_eq_true h), hj.1, hj.2⟩ fun _ => .int _)) fun _ => sr_if (te "same" (by decide +kernel)) (fun _ => sr_ret (ed_if teq (fun _ => ed_int (i := 1)) fun _ => ed_int (i := 0))) fun _ => sr_ret (ed_if tlt (fun _ => ed_int (i := 1)) fun _ => ed_int (i := 0))).to ?_) q
  show _ = PyData.int (opN o i j)
  unfold opN
  by_cases c1 : o = "add"
  · rw [if_pos c1, decide_eq_true c1, if_pos rfl]
  rw [if_neg c1, decide_eq_false c1, if_neg Bool.false_ne_true]
  by_cases c2 : o = "less"
  · rw [if_pos c2, decide_eq_true c2, if_pos rfl]
  rw [if_neg c2, decide_eq_false c2, if_neg Bool.false_ne_true]
  by_cases c3 : o = "times"
  · rw [if_pos c3, decide_eq_true c3, if_pos rfl]
  rw [if_neg c3, decide_eq_false c3, if_neg Bool.false_ne_true]
  by_cases c4 : o = "over"
  · rw [if_pos c4, decide_eq_true c4, if_pos rfl]
  rw [if_neg c4, decide_eq_false c4, if_neg Bool.false_ne_true]
  by_cases c5 : o = "same"
  · rw [if_pos c5, decide_eq_true c5, if_pos rfl]
    by_cases c6 : i = j
    · rw [if_pos c6, c6, beq_self_eq_true, if_pos rfl]
    · rw [if_neg c6, beq_eq_false_iff_ne.mpr c6, if_neg Bool.false_ne_true]
  rw [if_neg c5, decide_eq_false c5, if_neg Bool.false_ne_true]
  by_cases c6 : i < j
  · rw [if_pos c6, decide_eq_true c6, if_pos rfl]
  · rw [if_neg c6, decide_eq_false c6, if_neg Bool.false_ne_true]
theorem ok_oo (D : Def K mg "op_outcome" s_oo ["op", "one", "other"] f fd) (D1 : Def K mg "op_number" s_on ["op", "one", "other"] g gd) (D2 : Def K mg "is_worth" s_is_worth ["thing"] g2 gd2) (G2 : FnOk P w K mg base CX0 2 g2 gd2 ["thing"] (spP K (fun ds => ds.length = 1) (F1 worthD))) {t1 t2 : Tok} (m1 : mg "OVER_BY_NOUGHT" = some (.int (-1) t1)) (m2 : mg "NO_WORTH" = some (.int (-2) t2)) :
    FnOk P w K mg base CX0 3 f fd ["op", "one", "other"] (spP K OpPre (opOf fun o i j => outD (opR o i j))) := by
  refine D.F.ok sc_oo (fun vs H Q E h => spP_len (fun _ ⟨o, i, j, e, _⟩ => by rw [e]; rfl) h) (fun cdv A outer s H vs Q E hr h => ?_)
  obtain ⟨b, ds, kn, hd, ⟨o, i, j, rfl, ho, hi, hj⟩, q⟩ := h
  cases hd with
  | @cons v1 _ _ _ h1 hd =>
  cases hd with
  | @cons v2 _ _ _ h2 hd =>
  cases hd with
  | @cons v3 _ _ _ h3 hd =>
  cases hd
  have G1 := ok_on (P := P) (w := w) (base := base) D1
  refine ⟨_, pss_cons (ps_if (PW.pt (pw_and (pt_cmpR (op_eqD (hu64 hr)) (pv 0) pe_str (nomark _)) (pw_and1 (pt_cmpR (op_eqD (hu64 hr)) (pv 2) pe_int (nomark _))))) (pss_one (ps_ret (pe_tupF (pa_cons (pe_gI m1) (pa_cons pe_non pa_nil))))) pss_nil)
    (pss_cons (ps_set (i := 3) sc_oo.nd rfl (Or.inl rfl) (pe_cd D1 G1 (hr.mono (by decide)) (pa_cons (pv 0) (pa_cons (pv 1) (pa_cons (pv 2) pa_nil)))))
    (pss_cons (ps_if (pt_not (pt_val (pe_cd D2 G2 hr (pa_cons (pv 3) pa_nil)))) (pss_one (ps_ret (pe_tupF (pa_cons (pe_gI m2) (pa_cons pe_non pa_nil))))) pss_nil)
    (pss_one (ps_ret (pe_tupF (pa_cons pe_non (pa_cons (pv 3) pa_nil))))))), ?_⟩
  have t1 := et_t (ed_eq (K := K) (b := b) (ed_var (σ := start ["op", "one", "other", "number"] [v1, v2, v3]) (i := 0) rfl h1) (ed_str (x := "over")) (sh_str (opW_ok ho)) (sh_str (by decide +kernel)))
  have t2 := et_t (ed_eq (K := K) (b := b) (ed_var (σ := start ["op", "one", "other", "number"] [v1, v2, v3]) (i := 2) rfl h3) (ed_int (i := 0)) (sh_int _) (sh_int _))
  rw [strEq] at t1
  rw [eqv_int] at t2
  have t12 := et_and t1 fun _ => t2
  refine SR.fin ((sr_if (d := outD (.inl (-1))) (e := outD (opR o i j)) t12 (fun _ => sr_ret (ed_tup kn (ea_cons (ed_c (v := .int (-1)) (.int (-1))) (ea_cons ed_non ea_nil)) (by decide))) fun hc => ?_).to ?_) q
  · have hz : ¬ (o = "over" ∧ j = 0) := fun z => by
      rw [decide_eq_true z.1, z.2] at hc
      cases hc
    refine sr_set (ed_call (K := K) (b := b) (E := E0) kn (ea_cons (ed_var (i := 0) rfl h1) (ea_cons (ed_var (i := 1) rfl h2) (ea_cons (ed_var (i := 2) rfl h3) ea_nil))) ⟨o, i, j, rfl, ho, hi, hj, fun e z => hz ⟨e, z⟩⟩) fun v4 H' x' h4 => ?_
    have e4 : (opOf fun o i j => PyData.int (opN o i j)) [.str o, .int i, .int j] = .int (opN o i j) := rfl
    rw [e4] at h4
    have t3 := et_n (et_b (ed_call (K := K) (b := b) (σ := (start ["op", "one", "other", "number"] [v1, v2, v3]).set 3 (some v4)) (pre := fun ds => ds.length = 1) (f := F1 worthD) (E := E0) (kn.up x') (ea_cons (ed_var (i := 3) rfl h4) ea_nil) rfl))
    refine (sr_if t3 (fun _ => sr_ret (ed_tup (kn.up x') (ea_cons (ed_c (v := .int (-2)) (.int (-2))) (ea_cons ed_non ea_nil)) (by decide))) fun _ => sr_ret (ed_tup (kn.up x') (ea_cons ed_non (ea_cons (ed_var (i := 3) rfl h4) ea_nil)) (by rw [sizeLine_eq]; show 2 ≤ 16777216; decide))).to ?_
    unfold opR
    rw [if_neg hz]
    show (if (!(decide (-1000000000000 ≤ opN o i j) && decide (opN o i j ≤ 1000000000000))) = true then _ else _) = _
    by_cases c : -1000000000000 ≤ opN o i j ∧ opN o i j ≤ 1000000000000
    · rw [if_pos c, decide_eq_true c.1, decide_eq_true c.2]
      rfl
    · rw [if_neg c]
      have : (decide (-1000000000000 ≤ opN o i j) && decide (opN o i j ≤ 1000000000000)) = false := by
        cases h : (decide (-1000000000000 ≤ opN o i j) && decide (opN o i j ≤ 1000000000000)) with
        | false => rfl
        | true =>
          rw [Bool.and_eq_true] at h
          exact absurd ⟨of_decide_eq_true h.1, of_decide_eq_true h.2⟩ c
      rw [this]
      rfl
  · show _ = outD (opR o i j)
    by_cases c : o = "over" ∧ j = 0
    · have : opR o i j = .inl (-1) := by
        unfold opR
        rw [if_pos c]
      rw [this]
      split <;> rfl
    · have hn : (decide (o = "over") && (j == 0)) = false := by
        cases h : (decide (o = "over") && (j == 0)) with
        | false => rfl
        | true =>
          rw [Bool.and_eq_true] at h
          exact absurd ⟨of_decide_eq_true h.1, by simpa using h.2⟩ c
      rw [hn, if_neg Bool.false_ne_true]
end
end Wr

set_option Elab.async false
set_option linter.all false
set_option maxRecDepth 100000
set_option maxHeartbeats 4000000
namespace Wr
open PySem PySem.Spec PyProof.Rows L2 Evl
abbrev exTail : List Value := [.type "Exception", .type "BaseException", .type "object"]
theorem ex_tail : TailOk exTail "Exception" "Exception.__new__" := ⟨⟨_, _, F.excBase_Exception⟩, by decide +kernel, by decide +kernel, by decide +kernel, by decide +kernel, fun _ => by kernel_rfl⟩
theorem ex_init : InitOk exTail "Exception.__new__" "Exception.__init__" := fun _ _ _ _ _ _ _ _ _ _ _ _ _ _ _ _ _ _ _ _ _ _ _ _ _ _ _ _ hC he hl hq => HandSPX.init_base F.excBase_Exception (fun _ => rfl) hC he hl hq
abbrev s_fti : Stmt := inClass (topS 14) 0
theorem sc_fti : FnScope ["self", "number"] ["self", "number"] (defScope s_fti) := ⟨rfl, rfl, rfl, by decide +kernel, rfl, by decide +kernel, by decide +kernel⟩
abbrev ExC (K : PySem.W.Frag) (C : Addr) : Prop := OexT K C exTail "Exception" "Exception.__new__"
/-- what the top leaves of Fault -/
structure FtC (K : PySem.W.Frag) (mg : Str → Option Value) (C fI : Addr) (fdI : FuncData) : Prop where
  T : ExC K C
  F : Fun K "__init__" "Fault.__init__" s_fti fI fdI
  b : Binds K fdI ["self", "number"] []
  m : mg "Fault" = some (.ref C)
  i : PySem.W.findIn K (.ref C) "__init__" = some (some (.ref fI))
  t : PySem.W.typeIn K (.ref fI) = some (.type "function")
  n : PySem.W.findIn K (.ref C) "number" = some none
  v : PySem.W.findCls K (.type "Exception") (.type "type") "__init__" = some (.val (.builtin "Exception.__init__"))
  kb : mg "Exception" = none
/-- a fault in the air: its own dict is new -/
def XF (C : Addr) (H : Hp) (f : Int) (E : XK) : Prop := ∀ dx Hf, H dx = none → Ex H Hf → Hf dx = some (.xd [("number", .int f)]) → E (.ref C) (some dx) Hf
def spFti (K : PySem.W.Frag) : Sp := fun vs H Q _ => ∃ (a C : Addr) (f : Int), vs = [.ref a, .int f] ∧ ExC K C ∧ PySem.W.findIn K (.ref C) "number" = some none ∧ H a = some (exo a C none) ∧ f.natAbs < 10 ^ 45 ∧
  ∀ dx H1, Ex H H1 → H1 dx = none → dx ≠ a → Q .non (upd (upd H1 dx (exd dx [("number", .int f)])) a (exo a C (some dx)))
theorem bt_ex : bootBuiltins "Exception" = some (.type "Exception") := by decide +kernel
theorem ty_ex : typeOf (.type "Exception") = pure (.type "type") := by kernel_rfl
theorem txt_fits {i : Int} (h : i.natAbs < 10 ^ 45) : (toString i : Str).length ≤ 2000 := int_text_len_1921 (log_small h) |> fun z => Nat.le_trans z (by decide)
section
variable {P : Program} {w : World} {K : PySem.W.Frag} {mg : Str → Option Value} {base : Heap} {f g C fI : Addr} {fd gd fdI : FuncData}
theorem ok_fti (T : FtC K mg C fI fdI) : FnOk P w K mg base CX0 1 fI fdI ["self", "number"] (spFti K) := by
  refine T.F.ok sc_fti (fun vs H Q E ⟨a, C, f, e, _⟩ => by rw [e]; rfl) (fun cdv A outer s H vs Q E hr h => ?_)
  obtain ⟨a, C', f, rfl, hC, hno, ha, hf, q⟩ := h
  refine ⟨_, pss_cons (ps_expr (pe_binit (tl := exTail) (Bn := "Exception") (newId := "Exception.__new__") ex_init rfl T.kb bt_ex ty_ex (by decide +kernel) (by decide +kernel) (by decide) (by decide) T.v (pa_cons (pv 0) (pa_cons (pe_joined (.cons pe_str (.cons (pe_fmt (pv 1)) .nil))) pa_nil))))
    (pss_one (ps_first (tl := exTail) (Bn := "Exception") (newId := "Exception.__new__") (pv 0) (pv 1))), ?_⟩
  have hsl : sizeLine = 16777216 := sizeLine_eq
  refine ⟨.ref a, rfl, "the fault ", rfl, by rw [hsl]; decide +kernel, .int f, rfl, .inr ⟨f, rfl, log_small hf, toString f, rfl, ?_, ?_⟩⟩
  · have h1 := txt_fits hf
    have h2 : (Str.empty ++ "the fault " ++ (toString f : Str)).length = 10 + (toString f : Str).length := by
      show ((Str.empty ++ "the fault " : Str).cps ++ (toString f : Str).cps).size = _
      rw [Array.size_append]
      rfl
    rw [h2]
    omega
  · refine ⟨a, C', _, rfl, by show 1 ≤ 1000; decide, hC, ha, ?_⟩
    exact ⟨.int f, rfl, .ref a, rfl, a, C', rfl, hC, hno, ha, fun dx hdx hne => q dx H (Ex.refl H) hdx hne⟩
end
section
variable {X : Cx} {C fI : Addr} {fdI : FuncData} {e : Expr} {te : TE} {p pos rpos : Pos} {W : WX} {σ : L2.St} {H : Hp} {f : Int}
theorem mk_ft {E : XK} {K : PySem.W.Frag} (hT : ExC K C) (hn : PySem.W.findIn K (.ref C) "number" = some none) (hf : f.natAbs < 10 ^ 45) (h : te σ H fun v H1 => v = .int f ∧ H1 = H) (hx : XF C H f E) (hm : ∀ Q Q' : VK, (∀ v H', Q v H' → Q' v H') → te σ H Q → te σ H Q') : tMkO C (spFti K) [] (tCons te tNil) σ H E :=
  hm _ _ (fun v H1 ⟨ev, eH⟩ => ⟨by show 1 ≤ 1000; decide, fun a ha => by
    subst ev eH
    refine ⟨a, C, f, rfl, hT, hn, upd_same, hf, fun dx H2 x2 hdx hne => ⟨rfl, dx, [("number", .int f)], upd_same, by rw [upd_ne hne]; exact upd_same, ?_, ?_⟩⟩
    · cases z : H1 dx with
      | none => rfl
      | some o =>
        have := x2 _ _ (Ex.new (o := exo a C none) ha _ _ z)
        rw [this] at hdx
        cases hdx
    · have h0 : H1 dx = none := by
        cases z : H1 dx with
        | none => rfl
        | some o =>
          have := x2 _ _ (Ex.new (o := exo a C none) ha _ _ z)
          rw [this] at hdx
          cases hdx
      refine hx dx _ h0 (fun c o z => ?_) upd_same
      have hc : c ≠ a := fun e => by rw [e, ha] at z; cases z
      have hcd : c ≠ dx := fun e => by rw [e, h0] at z; cases z
      rw [upd_ne hcd, del_ne hc, upd_ne hc, upd_ne hcd]
      exact x2 _ _ (Ex.new ha _ _ z)⟩) h
theorem ps_ft (T : FtC X.K X.mg C fI fdI) (hc : X.calm = true) (tk : Takes X W) (hr : Room 2 X.A) (ha : PE X e te) (hg : Gl X "Fault" := by rfl)
    (he : starEach [e] X.env = (false, eval e X.env) :: starEach [] X.env := by rfl) : PS X (.Raise (some (.Call (.Name "Fault" p) [e] [] pos)) none rpos) (fun _ σ H => tMkO C (spFti X.K) [] (tCons te tNil) σ H fun cls d H' => W cls d σ H') :=
  ps_raise hc tk (pmk_t T.T T.i T.t (ok_fti (P := X.prog) (w := X.w) (base := X.base) T) hr T.b pass0 hg T.m (pa_cons ha pa_nil he) (by decide) he rfl)
end
/-! ### a method that may raise -/
def tMethX (C : Addr) (m : Str) (sp : Sp) (E : L2.St → XK) (ta : TE) (t : TA) : TE := fun σ H Q => ta σ H fun x H1 => ∃ a dx fs, x = .ref a ∧ H1 a = some (.ins C dx fs) ∧ fs.lookup m = none ∧ t σ H1 fun vs H2 => sp (x :: vs) H2 Q (E σ)
section
variable {X : Cx} {CX : CXT} {k : Nat} {f C : Addr} {fd : FuncData} {ps : List Str} {sp : Sp} {E : L2.St → XK} {m : Str} {pos apos : Pos} {e o : Expr} {es : List Expr} {ta : TE} {t : TA}
theorem pe_methX {pl : Sem Bool} (ho : PE X o ta) (c : Cls X.K C) (hm : Meth X.K C m f) (G : FnOk X.prog X.w X.K X.mg X.base CX k f fd ps sp) (hr : Room k X.A) (hb : Binds X.K fd ps []) (hx : ∀ σ, PassesAt CX X σ (E σ)) (ha : PA X (e :: es) t)
    (hst : starEach (e :: es) X.env = (false, eval e X.env) :: starEach es X.env := by rfl) (hpl : (backTo pos (starEach es X.env)).any (·.1) = false := by rfl)
    (ht : eval (.Call (.Attribute o m apos) (e :: es) [] pos) X.env = (do
      let ov ← eval o X.env
      standAt apos.atName
      let (f, first) ← holding [ov] (getMethod ov m pl); callWith pos f first (backTo pos (starEach (e :: es) X.env)) (backToKw pos (keywordEach [] X.env))) := by rfl) :
    PE X (.Call (.Attribute o m apos) (e :: es) [] pos) (tMethX C m sp E ta t) := by
  refine ⟨fun pins s σ H Q I hq => ?_⟩
  refine PySem.W.methodCall_KW (pl := pl) (thn (ho.run pins s σ H _ I hq) fun u s1 ⟨x, H1, I1, rx, a, dx, fs, ea0, ea, l, q⟩ => ?_) ht
  subst ea0
  obtain rfl : u = Value.ref a := rx
  refine getmeth_ok I1 ea c hm l (PySem.W.callWith_K (first := [.ref a]) (h₀ := X.base) I.ok.mod.kin hm.kp (thn (ha.run pos pins s1 σ H1 _ I1 q) fun us s2 ⟨vs, H2, I2, r, q2⟩ => ⟨I2.kIn, ?_⟩) hst hpl)
  exact run_fnS (us := .ref a :: us) (vs := .ref a :: vs) G hr hb (hx σ) I2 (.cons rfl r) q2
end
end Wr

set_option Elab.async false
set_option linter.all false
set_option maxRecDepth 100000
set_option maxHeartbeats 4000000
namespace Wr
open PySem PySem.Spec PyProof.Rows L2 Evl
theorem g_ifE {K : PySem.W.Frag} {σ : L2.St} {H : Hp} {tt : TT} {c : Bool} {t1 t2 ts : TS} {D : Ends} (hc : EvT tt σ H c) (h : ∀ H1, Ex H H1 → (if c = true then t1 { D with nx := ts D } σ H1 else t2 { D with nx := ts D } σ H1)) : tSeq (tIfS tt t1 t2) ts D σ H := hc H (Ex.refl H) _ h
theorem ps_off {X : Cx} {st : Stmt} : PS X st (fun _ _ _ => False) := ⟨fun _ _ _ _ _ _ h => h.elim⟩
/-! ### values -/
inductive Vx where
  | num (i : Int)
  | nm (y : Str)
  | op (o : Str) (a b : Vx)
def Vx.d : Vx → PyData
  | .num i => .int i
  | .nm y => .tuple [.str "name", .str y]
  | .op o a b => .tuple [.str o, a.d, b.d]
def Vx.ok : Vx → Prop
  | .num i => Wth i
  | .nm y => PyData.strOk y = true
  | .op o a b => o ∈ opW ∧ a.ok ∧ b.ok
def Vx.dep : Vx → Nat
  | .num _ => 1
  | .nm _ => 1
  | .op _ a b => max a.dep b.dep + 1
abbrev Env' := Str → Option Int
def Env'.ok (ρ : Env') : Prop := ∀ y w, ρ y = some w → Wth w
/-- a fault's number, or the worth -/
def ev (ρ : Env') : Vx → Int ⊕ Int
  | .num i => .inr i
  | .nm y => match ρ y with
    | some w => .inr w
    | none => .inl (-3)
  | .op o a b => match ev ρ a with
    | .inl f => .inl f
    | .inr i => match ev ρ b with
      | .inl f => .inl f
      | .inr j => opR o i j
theorem opR_ok {o : Str} {i j w : Int} (h : opR o i j = .inr w) : Wth w := by
  unfold opR at h
  split at h
  · cases h
  · split at h
    · rename_i c
      cases h
      exact c
    · cases h
theorem ev_ok {ρ : Env'} (hρ : ρ.ok) : ∀ {v : Vx} {w : Int}, v.ok → ev ρ v = .inr w → Wth w
  | .num i, w, h, e => by
    have : i = w := by injection e
    subst this
    exact h
  | .nm y, w, h, e => by
    unfold ev at e
    cases hy : ρ y with
    | none => rw [hy] at e; cases e
    | some u =>
      rw [hy] at e
      have : u = w := by injection e
      subst this
      exact hρ y u hy
  | .op o a b, w, h, e => by
    unfold ev at e
    split at e
    · cases e
    · split at e
      · cases e
      · exact opR_ok e
theorem opR_flt {o : Str} {i j f : Int} (h : opR o i j = .inl f) : f = -1 ∨ f = -2 := by
  unfold opR at h
  split at h
  · injection h with h
    exact .inl h.symm
  · split at h
    · cases h
    · injection h with h
      exact .inr h.symm
theorem ev_flt {ρ : Env'} : ∀ {v : Vx} {f : Int}, ev ρ v = .inl f → f = -1 ∨ f = -2 ∨ f = -3
  | .num i, f, e => by cases e
  | .nm y, f, e => by
    unfold ev at e
    cases hy : ρ y with
    | none =>
      rw [hy] at e
      injection e with e
      exact .inr (.inr e.symm)
    | some u => rw [hy] at e; cases e
  | .op o a b, f, e => by
    unfold ev at e
    split at e
    · rename_i h
      injection e with e
      exact ev_flt (e ▸ h)
    · split at e
      · rename_i h
        injection e with e
        exact ev_flt (e ▸ h)
      · rcases opR_flt e with h | h
        · exact .inl h
        · exact .inr (.inl h)
theorem dep_pos : ∀ v : Vx, 1 ≤ v.dep
  | .num _ => Nat.le_refl _
  | .nm _ => Nat.le_refl _
  | .op _ _ _ => Nat.le_add_left _ _
/-! ### the names that are set, as a dict -/
def KnD (kd : Addr) (ρ : Env') (H : Hp) : Prop := ∃ kvs, H kd = some (.dK kvs) ∧ kvs.length ≤ 100 ∧ ∀ y, valV kvs (Sum.inr y) = (ρ y).map V.int
theorem KnD.up {kd : Addr} {ρ : Env'} {H H' : Hp} (h : KnD kd ρ H) (x : Ex H H') : KnD kd ρ H' := by
  obtain ⟨kvs, h1, h2⟩ := h
  exact ⟨kvs, x _ _ h1, h2⟩
theorem XF.up {C : Addr} {H H' : Hp} {f : Int} {E : XK} (h : XF C H f E) (x : Ex H H') : XF C H' f E := fun dx Hf n xf hf => h dx Hf (by
  cases z : H dx with
  | none => rfl
  | some o => rw [x _ _ z] at n; cases n) (x.trans xf) hf
abbrev tf (tup sp : Addr) (l : Int) : List (Str × V) := [("tuples", .ref tup), ("left", .int l), ("spoken", .ref sp)]
abbrev s_wo : Stmt := inClass (topS 17) 8
abbrev NWo : List Str := ["self", "value", "known", "deep", "word", "one", "other", "fault", "worth", "inner"]
theorem sc_wo : FnScope NWo ["self", "value", "known", "deep"] (defScope s_wo) := ⟨rfl, rfl, rfl, by decide +kernel, rfl, by decide +kernel, by decide +kernel⟩
def spW (K : PySem.W.Frag) (CF CT : Addr) (n : Nat) : Sp := fun vs H Q E => ∃ (b : List Addr) (p dxp tup sp kd : Addr) (l : Int) (ρ : Env') (val : Vx) (u dp : V), vs = [.ref p, u, .ref kd, dp] ∧ Kn b H ∧ Dq K b H u val.d ∧ val.ok ∧ val.dep ≤ n ∧ H p = some (.ins CT dxp (tf tup sp l)) ∧ KnD kd ρ H ∧ ρ.ok ∧
  (∀ w, ev ρ val = .inr w → ∀ H', Ex H H' → Q (.int w) H') ∧ ∀ f, ev ρ val = .inl f → XF CF H f E
theorem fnok_none {P : Program} {w : World} {K : PySem.W.Frag} {mg : Str → Option Value} {base : Heap} {CX : CXT} {k : Nat} {f : Addr} {fd : FuncData} {ps : List Str} {sp : Sp} (h : ∀ vs H Q E, ¬ sp vs H Q E) : FnOk P w K mg base CX k f fd ps sp :=
  ⟨fun vs H Q E z => (h vs H Q E z).elim, fun _ _ _ _ _ _ _ _ _ _ _ _ _ z => (h _ _ _ _ z).elim⟩
end Wr

set_option Elab.async false
set_option linter.all false
set_option maxRecDepth 100000
set_option maxHeartbeats 4000000
namespace Wr
open PySem PySem.Spec PyProof.Rows L2 Evl
theorem hu1 {A : Around} {k : Nat} (hr : Room k A) : A.units + 1 < cLine := by
  have := hu64 hr
  omega
theorem opW_not {o : Str} (h : o ∈ opW) : o ≠ "name" ∧ o ≠ "call" := by
  have q : (opW.all fun o => decide (o ≠ "name") && decide (o ≠ "call")) = true := by decide +kernel
  have := List.all_eq_true.mp q o h
  rw [Bool.and_eq_true] at this
  exact ⟨of_decide_eq_true this.1, of_decide_eq_true this.2⟩
theorem ev_op1 {ρ : Env'} {o : Str} {a b : Vx} {f : Int} (h : ev ρ a = .inl f) : ev ρ (.op o a b) = .inl f := by simp only [ev, h]
theorem ev_op2 {ρ : Env'} {o : Str} {a b : Vx} {i f : Int} (h : ev ρ a = .inr i) (h2 : ev ρ b = .inl f) : ev ρ (.op o a b) = .inl f := by simp only [ev, h, h2]
theorem ev_op3 {ρ : Env'} {o : Str} {a b : Vx} {i j : Int} (h : ev ρ a = .inr i) (h2 : ev ρ b = .inr j) : ev ρ (.op o a b) = opR o i j := by simp only [ev, h, h2]
theorem g_no {σ : L2.St} {H : Hp} {tt : TT} {t1 ts : TS} {D : Ends} (hc : EvT tt σ H false) (h : ∀ H1, Ex H H1 → ts D σ H1) : tSeq (tIfS tt t1 tNext) ts D σ H := hc H (Ex.refl H) _ fun H1 x1 => by
  rw [if_neg Bool.false_ne_true]
  exact h H1 x1
theorem g_yes {σ : L2.St} {H : Hp} {tt : TT} {t1 t2 ts : TS} {D : Ends} (hc : EvT tt σ H true) (h : ∀ H1, Ex H H1 → t1 { D with nx := ts D } σ H1) : tSeq (tIfS tt t1 t2) ts D σ H := hc H (Ex.refl H) _ fun H1 x1 => by
  rw [if_pos rfl]
  exact h H1 x1
section
variable {P : Program} {w : World} {K : PySem.W.Frag} {mg : Str → Option Value} {base : Heap} {CF fI CT fW g g2 g3 : Addr} {fdI fdW gd gd2 gd3 : FuncData}
theorem ok_wo (T : FtC K mg CF fI fdI) (c : Cls K CT) (mW : Meth K CT "worth_of" fW) (FW : Fun K "worth_of" "Telling.worth_of" s_wo fW fdW) (bW : Binds K fdW ["self", "value", "known", "deep"] []) (D1 : Def K mg "op_outcome" s_oo ["op", "one", "other"] g gd) (G1 : FnOk P w K mg base CX0 3 g gd ["op", "one", "other"] (spP K OpPre (opOf fun o i j => outD (opR o i j)))) (B : Blt mg) {t : Tok} (mN : mg "NOT_SET" = some (.int (-3) t)) :
    ∀ n, FnOk P w K mg base (L2.CX P w) (n + 4) fW fdW ["self", "value", "known", "deep"] (spW K CF CT n)
  | 0 => fnok_none fun vs H Q E ⟨b, p, dxp, tup, sp, kd, l, ρ, val, u, dp, _, _, _, _, hd, _⟩ => by
    have := dep_pos val
    omega
  | n + 1 => by
    have IH := ok_wo T c mW FW bW D1 G1 B mN n
    refine FW.okX sc_wo (fun vs H Q E ⟨b, p, dxp, tup, sp, kd, l, ρ, val, u, dp, e, _⟩ => by rw [e]; rfl) (fun cdv A outer s H vs Q E hr h => ?_)
    obtain ⟨b, p, dxp, tup, sp, kd, l, ρ, val, u, dp, rfl, kn, hu, vok, vdep, hp, hkd, hρ, q1, q2⟩ := h
    have r3 : Room 3 _ := hr.mono (by omega)
    have r2 : Room 2 _ := hr.mono (by omega)
    refine ⟨_, pss_cons (ps_if (pt_not (pt_val (pe_callB call_isi rfl B.isi bb_isinstance (pa_cons (pv 1) (pa_cons (pe_tyN rfl B.tuple bt_tuple) pa_nil))))) (pss_one (ps_ret (pv 1))) pss_nil)
      (pss_cons (ps_set (i := 4) sc_wo.nd rfl (Or.inl rfl) (pe_ix ix_tup (pv 1) pe_int (fun _ _ => rfl)))
      (pss_cons (ps_if (pt_cmpR (op_eqD (hu64 hr)) (pv 4) pe_str (nomark _))
        (pss_cons (ps_if (pt_cmp (pc_dnotin (hu1 hr) (pe_ix ix_tup (pv 1) pe_int (fun _ _ => rfl)) (pv 2)) rfl) (pss_one (ps_ft (W := fun cls d _ H => E cls d H) T rfl (takes_of rfl rfl rfl rfl) r2 (pe_gI mN))) pss_nil)
        (pss_one (ps_ret (pe_dget (hu1 hr) (pv 2) (pe_ix ix_tup (pv 1) pe_int (fun _ _ => rfl)) (fun _ _ => rfl))))) pss_nil)
      (pss_cons (ps_if (pt_cmpR (op_eqD (hu64 hr)) (pv 4) pe_str (nomark _)) (pss_one ps_off) pss_nil)
      (pss_cons (ps_set (i := 5) sc_wo.nd rfl (Or.inl rfl) (pe_methX (E := WE fun cls d _ H => E cls d H) (pv 0) c mW IH hr bW (fun σ => passAt (takes_of rfl rfl rfl rfl) σ) (pa_cons (pe_ix ix_tup (pv 1) pe_int (fun _ _ => rfl)) (pa_cons (pv 2) (pa_cons (pv 3) pa_nil)))))
      (pss_cons (ps_set (i := 6) sc_wo.nd rfl (Or.inl rfl) (pe_methX (E := WE fun cls d _ H => E cls d H) (pv 0) c mW IH hr bW (fun σ => passAt (takes_of rfl rfl rfl rfl) σ) (pa_cons (pe_ix ix_tup (pv 1) pe_int (fun _ _ => rfl)) (pa_cons (pv 2) (pa_cons (pv 3) pa_nil)))))
      (pss_cons (ps_asg (pe_cd D1 G1 r3 (pa_cons (pv 4) (pa_cons (pv 5) (pa_cons (pv 6) pa_nil)))) (pg_tup rfl (pgs_cons (pg_name (i := 7) sc_wo.nd rfl (Or.inl rfl)) (pgs_cons (pg_name (i := 8) sc_wo.nd rfl (Or.inl rfl)) pgs_nil))))
      (pss_cons (ps_if (pt_cmp (pc_notN (pv 7))) (pss_one (ps_ft (W := fun cls d _ H => E cls d H) T rfl (takes_of rfl rfl rfl rfl) r2 (pv 7))) pss_nil)
      (pss_one (ps_ret (pv 8)))))))))), ?_⟩
    have t1 := et_n (et_b (ed_isi (K := K) (b := b) (σ := start NWo [.ref p, u, .ref kd, dp]) (H := H) (T := "tuple") (.inr (.inr (.inr (.inl rfl)))) (ed_var (i := 1) rfl hu)))
    refine g_ifE (K := K) t1 fun H1 x1 => ?_
    cases val with
    | num i =>
      have eu := dq_int hu
      subst eu
      exact ⟨.int i, rfl, q1 i rfl H1 x1⟩
    | nm y =>
      show tNext _ _ _
      refine gnext ?_
      have hu1' := Dq.up hu x1
      refine g_set (ed_ixT (K := K) (b := b) (ed_var (i := 1) rfl hu1') (ed_int (i := 0)) (atI0 _ _)) fun v4 H2 x2 h4 => ?_
      have e4 := dq_str h4
      subst e4
      have t2 := et_t (ed_eq (K := K) (b := b) (ed_var (σ := [some (.ref p), some u, some (.ref kd), some dp, some (.str "name"), none, none, none, none, none]) (H := H2) (i := 4) (d := .str "name") rfl (.str _)) (ed_str (x := "name")) (sh_str (by decide +kernel)) (sh_str (by decide +kernel)))
      rw [strEq, decide_eq_true rfl] at t2
      refine g_ifE (K := K) t2 fun H3 x3 => ?_
      rw [if_pos rfl]
      have x13 := (x1.trans x2).trans x3
      have i1 := ed_ixT (K := K) (b := b) (σ := [some (V.ref p), some u, some (.ref kd), some dp, some (.str "name"), none, none, none, none, none]) (ed_var (i := 1) rfl (Dq.up hu x13)) (ed_int (i := 1)) (atI1 (PyData.str "name") (.str y) [])
      refine i1 H3 (Ex.refl H3) _ fun vy H4 x4 hy => ?_
      have ey := dq_str hy
      subst ey
      obtain ⟨kvs, hk, hkl, hkv⟩ := hkd.up (x13.trans x4)
      refine ⟨.ref kd, rfl, kd, _, rfl, DGet.k (k := Sum.inr y) hk, _, rfl, ?_⟩
      rw [hkv y]
      cases hy' : ρ y with
      | none =>
        show ite (true = true) _ _
        rw [if_pos rfl]
        refine mk_ft T.T T.n (by decide) ⟨rfl, rfl⟩ ((q2 (-3) ?_).up (x13.trans x4)) fun Q Q' hq z => hq _ _ z
        unfold ev
        rw [hy']
      | some w' =>
        show ite (false = true) _ _
        rw [if_neg Bool.false_ne_true]
        refine gnext ?_
        refine ⟨.ref kd, rfl, ?_⟩
        refine i1 H4 x4 _ fun vy2 H5 x5 hy2 => ?_
        have ey2 := dq_str hy2
        subst ey2
        have hg : DGet H5 kd (.str y) (some (.int w')) := by
          have := DGet.k (k := Sum.inr y) (x5 _ _ hk)
          rw [hkv y, hy'] at this
          exact this
        refine ⟨kd, .int w', rfl, hg, q1 w' ?_ H5 ((x13.trans x4).trans x5)⟩
        unfold ev
        rw [hy']
    | op o va vb =>
      obtain ⟨ho, oka, okb⟩ := vok
      have hdep : va.dep ≤ n ∧ vb.dep ≤ n := by
        have h1 : max va.dep vb.dep + 1 ≤ n + 1 := vdep
        have h2 := Nat.le_max_left va.dep vb.dep
        have h3 := Nat.le_max_right va.dep vb.dep
        omega
      have ho' := opW_not ho
      have hso := opW_ok ho
      show tNext _ _ _
      refine gnext ?_
      refine g_set (ed_ixT (K := K) (b := b) (ed_var (i := 1) rfl (Dq.up hu x1)) (ed_int (i := 0)) (atI0 _ _)) fun v4 H2 x2 h4 => ?_
      have e4 := dq_str h4
      subst e4
      have tw : ∀ (x : Str) (H' : Hp), PyData.strOk x = true → EvT (tTest (tOp (rEqD K) (tVar 4) (tC (.str x)))) [some (.ref p), some u, some (.ref kd), some dp, some (.str o), none, none, none, none, none] H' (decide (o = x)) := fun x H' hx => by
        have := et_t (ed_eq (K := K) (b := b) (ed_var (σ := [some (.ref p), some u, some (.ref kd), some dp, some (.str o), none, none, none, none, none]) (H := H') (i := 4) (d := .str o) rfl (.str _)) (ed_str (x := x)) (sh_str hso) (sh_str hx))
        rw [strEq] at this
        exact this
      refine g_no (by have z := tw "name" H2 (by decide +kernel); rw [decide_eq_false ho'.1] at z; exact z) fun H3 x3 => ?_
      refine g_no (by have z := tw "call" H3 (by decide +kernel); rw [decide_eq_false ho'.2] at z; exact z) fun H4 x4 => ?_
      have x14 := ((x1.trans x2).trans x3).trans x4
      refine ⟨.ref p, rfl, p, dxp, _, rfl, x14 _ _ hp, rfl, ?_⟩
      refine (ed_ixT (K := K) (b := b) (σ := [some (.ref p), some u, some (.ref kd), some dp, some (.str o), none, none, none, none, none]) (ed_var (i := 1) rfl (Dq.up hu x14)) (ed_int (i := 1)) (atI1 (PyData.str o) va.d [vb.d])) H4 (Ex.refl H4) _ fun ua H5 x5 ha => ?_
      have x15 := x14.trans x5
      refine ⟨.ref kd, rfl, dp, rfl, b, p, dxp, tup, sp, kd, l, ρ, va, ua, dp, rfl, kn.up x15, ha, oka, hdep.1, x15 _ _ hp, hkd.up x15, hρ, fun i hi H6 x6 => ?_, fun f hf => (q2 f ?_).up x15⟩
      · show tSeq _ _ _ [some (.ref p), some u, some (.ref kd), some dp, some (.str o), some (.int i), none, none, none, none] H6
        have x16 := x15.trans x6
        refine ⟨.ref p, rfl, p, dxp, _, rfl, x16 _ _ hp, rfl, ?_⟩
        refine (ed_ixT (K := K) (b := b) (σ := [some (.ref p), some u, some (.ref kd), some dp, some (.str o), some (.int i), none, none, none, none]) (ed_var (i := 1) rfl (Dq.up hu x16)) (ed_int (i := 2)) (atI2 (PyData.str o) va.d vb.d [])) H6 (Ex.refl H6) _ fun ub H7 x7 hb => ?_
        have x17 := x16.trans x7
        refine ⟨.ref kd, rfl, dp, rfl, b, p, dxp, tup, sp, kd, l, ρ, vb, ub, dp, rfl, kn.up x17, hb, okb, hdep.2, x17 _ _ hp, hkd.up x17, hρ, fun j hj H8 x8 => ?_, fun f hf => (q2 f ?_).up x17⟩
        · show tSeq _ _ _ [some (.ref p), some u, some (.ref kd), some dp, some (.str o), some (.int i), some (.int j), none, none, none] H8
          have x18 := x17.trans x8
          have wi := ev_ok hρ oka hi
          have wj := ev_ok hρ okb hj
          have ho2 := ed_call (K := K) (b := b) (σ := [some (.ref p), some u, some (.ref kd), some dp, some (.str o), some (.int i), some (.int j), none, none, none]) (pre := OpPre) (f := opOf fun o i j => outD (opR o i j)) (E := E0) (kn.up x18) (ea_cons (ed_var (i := 4) (d := .str o) rfl (.str _)) (ea_cons (ed_var (i := 5) (d := .int i) rfl (.int _)) (ea_cons (ed_var (i := 6) (d := .int j) rfl (.int _)) ea_nil))) ⟨o, i, j, rfl, ho, wi, wj⟩
          refine ho2 H8 (Ex.refl H8) _ fun vo H9 x9 hvo => ?_
          have hvo' : Dq K b H9 vo (outD (opR o i j)) := hvo
          have x19 := x18.trans x9
          have eev : ev ρ (.op o va vb) = opR o i j := by
            exact ev_op3 hi hj
          cases hR : opR o i j with
          | inl f =>
            rw [hR] at hvo'
            cases hvo' with
            | tup g1 _ g2 =>
            cases g2 with
            | cons p1 g2 =>
            cases g2 with
            | cons p2 g2 =>
            cases g2
            have e1 := dq_int p1
            subst e1
            cases p2
            refine ⟨_, _, rfl, ex_t hid_le g1, rfl, _, _, rfl, _, _, rfl, rfl, ?_⟩
            refine ⟨.int f, rfl, _, rfl, ?_⟩
            show ite (true = true) _ _
            rw [if_pos rfl]
            refine mk_ft T.T T.n ?_ ⟨.int f, rfl, rfl, rfl⟩ ((q2 f (eev.trans hR)).up x19) fun Q Q' hq ⟨v, e, z⟩ => ⟨v, e, hq _ _ z⟩
            rcases opR_flt hR with rfl | rfl <;> decide
          | inr w' =>
            rw [hR] at hvo'
            cases hvo' with
            | tup g1 _ g2 =>
            cases g2 with
            | cons p1 g2 =>
            cases g2 with
            | cons p2 g2 =>
            cases g2
            cases p1
            have e2 := dq_int p2
            subst e2
            refine ⟨_, _, rfl, ex_t hid_le g1, rfl, _, _, rfl, _, _, rfl, rfl, ?_⟩
            refine ⟨.non, rfl, _, rfl, ?_⟩
            show ite (false = true) _ _
            rw [if_neg Bool.false_ne_true]
            exact ⟨.int w', rfl, q1 w' (eev.trans hR) H9 x19⟩
        · exact ev_op2 hi hf
      · exact ev_op1 hf
end
end Wr

set_option Elab.async false
set_option linter.all false
set_option maxRecDepth 100000
set_option maxHeartbeats 4000000
namespace Wr
open PySem PySem.Spec PyProof.Rows L2 Evl
/-! ### sayings -/
inductive Fl where
  | say (v : Vx)
  | bk (v : Vx)
  | th (v : Vx)
def Fl.w : Fl → Str
  | .say _ => "say"
  | .bk _ => "back"
  | .th _ => "throw"
def Fl.v : Fl → Vx
  | .say v => v
  | .bk v => v
  | .th v => v
def Fl.d (f : Fl) : PyData := .tuple [.str f.w, f.v.d]
def Fl.ok (f : Fl) : Prop := f.v.ok ∧ f.v.dep ≤ 4
inductive Sx where
  | fl (f : Fl)
  | ite (v : Vx) (a b : List Fl)
  | tri (a : List Fl) (y : Str) (b : List Fl)
def Sx.d : Sx → PyData
  | .fl f => f.d
  | .ite v a b => .tuple [.str "if", v.d, .tuple (a.map Fl.d), .tuple (b.map Fl.d)]
  | .tri a y b => .tuple [.str "try", .tuple (a.map Fl.d), .str y, .tuple (b.map Fl.d)]
def Sx.ok (n : Nat) : Sx → Prop
  | .fl f => f.ok
  | .ite v a b => 1 ≤ n ∧ v.ok ∧ v.dep ≤ 4 ∧ (∀ f ∈ a, f.ok) ∧ (∀ f ∈ b, f.ok) ∧ a.length ≤ 6 ∧ b.length ≤ 6
  | .tri a y b => 1 ≤ n ∧ PyData.strOk y = true ∧ (∀ f ∈ a, f.ok) ∧ (∀ f ∈ b, f.ok) ∧ a.length ≤ 6 ∧ b.length ≤ 6
/-- how many sayings may be begun -/
def Sx.cnt : Sx → Nat
  | .fl _ => 1
  | .ite _ a b => 1 + a.length + b.length
  | .tri a _ b => 1 + a.length + b.length
def cntL : List Sx → Nat
  | [] => 0
  | x :: r => x.cnt + cntL r
theorem cntL_fl (a : List Fl) : cntL (a.map .fl) = a.length := by
  induction a with
  | nil => rfl
  | cons f r ih =>
    show 1 + cntL (r.map .fl) = r.length + 1
    rw [ih]
    omega
abbrev Out := Int ⊕ Option Int
abbrev Res := List Int × Out × Env'
def seqG {α : Type} (one : Env' → α → Res) : Env' → List α → Res
  | ρ, [] => ([], .inr none, ρ)
  | ρ, x :: r => match one ρ x with
    | (s, .inr none, ρ') => (s ++ (seqG one ρ' r).1, (seqG one ρ' r).2.1, (seqG one ρ' r).2.2)
    | (s, .inr (some w), ρ') => (s, .inr (some w), ρ')
    | (s, .inl f, ρ') => (s, .inl f, ρ')
def flO (ρ : Env') : Fl → Res
  | .say v => match ev ρ v with
    | .inl f => ([], .inl f, ρ)
    | .inr w => ([w], .inr none, ρ)
  | .bk v => match ev ρ v with
    | .inl f => ([], .inl f, ρ)
    | .inr w => ([], .inr (some w), ρ)
  | .th v => match ev ρ v with
    | .inl f => ([], .inl f, ρ)
    | .inr w => ([], .inl w, ρ)
def putE (ρ : Env') (y : Str) (w : Int) : Env' := fun z => if z = y then some w else ρ z
def sxO (ρ : Env') : Sx → Res
  | .fl f => flO ρ f
  | .ite v a b => match ev ρ v with
    | .inl f => ([], .inl f, ρ)
    | .inr w => seqG flO ρ (if w = 0 then b else a)
  | .tri a y b => match seqG flO ρ a with
    | (s, .inl f, ρ') => (s ++ (seqG flO (putE ρ' y f) b).1, (seqG flO (putE ρ' y f) b).2.1, (seqG flO (putE ρ' y f) b).2.2)
    | (s, .inr r, ρ') => (s, .inr r, ρ')
theorem flO_flt {ρ : Env'} {f : Fl} {e : Int} (h : ev ρ f.v = .inl e) : flO ρ f = ([], .inl e, ρ) := by
  cases f <;> simp only [Fl.v] at h <;> simp only [flO, h]
theorem flO_say {ρ : Env'} {v : Vx} {w : Int} (h : ev ρ v = .inr w) : flO ρ (.say v) = ([w], .inr none, ρ) := by simp only [flO, h]
theorem flO_bk {ρ : Env'} {v : Vx} {w : Int} (h : ev ρ v = .inr w) : flO ρ (.bk v) = ([], .inr (some w), ρ) := by simp only [flO, h]
theorem flO_th {ρ : Env'} {v : Vx} {w : Int} (h : ev ρ v = .inr w) : flO ρ (.th v) = ([], .inl w, ρ) := by simp only [flO, h]
theorem sxO_iteF {ρ : Env'} {v : Vx} {a b : List Fl} {f : Int} (h : ev ρ v = .inl f) : sxO ρ (.ite v a b) = ([], .inl f, ρ) := by simp only [sxO, h]
theorem sxO_ite {ρ : Env'} {v : Vx} {a b : List Fl} {w : Int} (h : ev ρ v = .inr w) : sxO ρ (.ite v a b) = seqG flO ρ (if w = 0 then b else a) := by simp only [sxO, h]
theorem sxO_triF {ρ ρ' : Env'} {a b : List Fl} {y : Str} {s : List Int} {f : Int} (h : seqG flO ρ a = (s, .inl f, ρ')) : sxO ρ (.tri a y b) = (s ++ (seqG flO (putE ρ' y f) b).1, (seqG flO (putE ρ' y f) b).2.1, (seqG flO (putE ρ' y f) b).2.2) := by simp only [sxO, h]
theorem sxO_tri {ρ ρ' : Env'} {a b : List Fl} {y : Str} {s : List Int} {r : Option Int} (h : seqG flO ρ a = (s, .inr r, ρ')) : sxO ρ (.tri a y b) = (s, .inr r, ρ') := by simp only [sxO, h]
section
variable {α : Type} {one : Env' → α → Res} {ρ ρ' : Env'} {x : α} {r : List α} {s : List Int}
theorem seq_next (h : one ρ x = (s, .inr none, ρ')) : seqG one ρ (x :: r) = (s ++ (seqG one ρ' r).1, (seqG one ρ' r).2.1, (seqG one ρ' r).2.2) := by simp only [seqG, h]
theorem seq_ret {w : Int} (h : one ρ x = (s, .inr (some w), ρ')) : seqG one ρ (x :: r) = (s, .inr (some w), ρ') := by simp only [seqG, h]
theorem seq_flt {f : Int} (h : one ρ x = (s, .inl f, ρ')) : seqG one ρ (x :: r) = (s, .inl f, ρ') := by simp only [seqG, h]
end
theorem seq_fl (ρ : Env') (a : List Fl) : seqG sxO ρ (a.map .fl) = seqG flO ρ a := by
  induction a generalizing ρ with
  | nil => rfl
  | cons f r ih =>
    show seqG sxO ρ (.fl f :: r.map .fl) = _
    rcases h : flO ρ f with ⟨s, o, ρ'⟩
    have h' : sxO ρ (.fl f) = (s, o, ρ') := h
    rcases o with f' | (_ | w)
    · rw [seq_flt h, seq_flt h']
    · rw [seq_next h, seq_next h', ih ρ']
    · rw [seq_ret h, seq_ret h']
theorem map_fl (a : List Fl) : (a.map Sx.fl).map Sx.d = a.map Fl.d := by
  rw [List.map_map]
  rfl
/-! ### faults and names stay worths -/
def ResOk (r : Res) : Prop := r.2.2.ok ∧ (∀ f, r.2.1 = .inl f → Wth f) ∧ ∀ w, r.2.1 = .inr (some w) → Wth w
theorem flt_w {ρ : Env'} {v : Vx} {f : Int} (h : ev ρ v = .inl f) : Wth f := by
  rcases ev_flt h with rfl | rfl | rfl <;> exact ⟨by decide, by decide⟩
theorem flO_ok {ρ : Env'} (hρ : ρ.ok) {f : Fl} (hf : f.ok) : ResOk (flO ρ f) := by
  cases h : ev ρ f.v with
  | inl e =>
    rw [flO_flt h]
    exact ⟨hρ, fun f e => by cases e; exact flt_w h, fun w e => by cases e⟩
  | inr w =>
    have ww := ev_ok hρ hf.1 h
    cases f with
    | say v =>
      rw [flO_say (v := v) h]
      exact ⟨hρ, fun f e => (by cases e), fun w e => by cases e⟩
    | bk v =>
      rw [flO_bk (v := v) h]
      exact ⟨hρ, fun f e => (by cases e), fun w e => by cases e; exact ww⟩
    | th v =>
      rw [flO_th (v := v) h]
      exact ⟨hρ, fun f e => by cases e; exact ww, fun w e => by cases e⟩
theorem seq_ok {α : Type} {one : Env' → α → Res} : ∀ {ρ : Env'} {xs : List α}, ρ.ok → (∀ x ∈ xs, ∀ ρ : Env', ρ.ok → ResOk (one ρ x)) → ResOk (seqG one ρ xs)
  | ρ, [], hρ, _ => ⟨hρ, fun f e => (by cases e), fun w e => by cases e⟩
  | ρ, x :: r, hρ, h => by
    have hx := h x List.mem_cons_self ρ hρ
    rcases hq : one ρ x with ⟨s, o, ρ'⟩
    rw [hq] at hx
    rcases o with f' | (_ | w)
    · rw [seq_flt hq]
      exact hx
    · rw [seq_next hq]
      exact seq_ok (ρ := ρ') hx.1 fun y hy => h y (List.mem_cons_of_mem _ hy)
    · rw [seq_ret hq]
      exact hx
theorem putE_ok {ρ : Env'} {y : Str} {f : Int} (hρ : ρ.ok) (hf : Wth f) : (putE ρ y f).ok := fun z w h => by
  unfold putE at h
  split at h
  · cases h
    exact hf
  · exact hρ z w h
theorem fls_ok {ρ : Env'} (hρ : ρ.ok) {a : List Fl} (ha : ∀ f ∈ a, f.ok) : ResOk (seqG flO ρ a) := seq_ok hρ fun f hf ρ' h => flO_ok h (ha f hf)
theorem sxO_ok {n : Nat} {ρ : Env'} (hρ : ρ.ok) {x : Sx} (hx : x.ok n) : ResOk (sxO ρ x) := by
  cases x with
  | fl f => exact flO_ok hρ hx
  | ite v a b =>
    obtain ⟨_, hv, _, ha, hb, _⟩ := hx
    cases h : ev ρ v with
    | inl e =>
      rw [sxO_iteF h]
      exact ⟨hρ, fun f e => by cases e; exact flt_w h, fun w e => by cases e⟩
    | inr w =>
      rw [sxO_ite h]
      split
      · exact fls_ok hρ hb
      · exact fls_ok hρ ha
  | tri a y b =>
    obtain ⟨_, hy, ha, hb, _⟩ := hx
    have h1 := fls_ok hρ ha
    rcases hq : seqG flO ρ a with ⟨s, o, ρ'⟩
    rw [hq] at h1
    rcases o with f | r
    · rw [sxO_triF hq]
      exact fls_ok (putE_ok h1.1 (h1.2.1 f rfl)) hb
    · rw [sxO_tri hq]
      exact h1
/-! ### the telling, and what may change in it -/
structure Tl (CT p dxp tup sp kd : Addr) (l : Int) (n : Nat) (said : List Int) (ρ : Env') (H : Hp) : Prop where
  ins : H p = some (.ins CT dxp (tf tup sp l))
  spk : H sp = some (.lst (said.map V.int))
  few : said.length ≤ n
  kn : ∃ kvs, H kd = some (.dK kvs) ∧ kvs.length ≤ n ∧ ∀ y, valV kvs (Sum.inr y) = (ρ y).map V.int
def ExT (p sp kd : Addr) (H H' : Hp) : Prop := ∀ c o, c ≠ p → c ≠ sp → c ≠ kd → H c = some o → H' c = some o
theorem ExT.refl (p sp kd : Addr) (H : Hp) : ExT p sp kd H H := fun _ _ _ _ _ h => h
theorem ExT.trans {p sp kd : Addr} {H H1 H2 : Hp} (x : ExT p sp kd H H1) (y : ExT p sp kd H1 H2) : ExT p sp kd H H2 := fun c o a b d h => y c o a b d (x c o a b d h)
theorem ext {p sp kd : Addr} {H H1 : Hp} (x : Ex H H1) : ExT p sp kd H H1 := fun c o _ _ _ h => x c o h
theorem hid_exT {b : List Addr} {p sp kd : Addr} {H H' : Hp} (h1 : p ∈ b) (h2 : sp ∈ b) (h3 : kd ∈ b) (e : ExT p sp kd H H') : Ex (hid b H) (hid b H') := fun c o h => by
  obtain ⟨z1, z2⟩ := hid_some h
  rw [hid_ne z1]
  exact e c o (fun z => z1 (z ▸ h1)) (fun z => z1 (z ▸ h2)) (fun z => z1 (z ▸ h3)) z2
section
variable {CT p dxp tup sp kd : Addr} {l : Int} {n : Nat} {said : List Int} {ρ : Env'} {H H' : Hp}
theorem Tl.up (h : Tl CT p dxp tup sp kd l n said ρ H) (x : Ex H H') : Tl CT p dxp tup sp kd l n said ρ H' := by
  obtain ⟨kvs, k1, k2⟩ := h.kn
  exact ⟨x _ _ h.ins, x _ _ h.spk, h.few, kvs, x _ _ k1, k2⟩
theorem Tl.knd (h : Tl CT p dxp tup sp kd l n said ρ H) (hn : n ≤ 100) : KnD kd ρ H := by
  obtain ⟨kvs, k1, k2, k3⟩ := h.kn
  exact ⟨kvs, k1, Nat.le_trans k2 hn, k3⟩
theorem Tl.le {m : Nat} (h : Tl CT p dxp tup sp kd l n said ρ H) (hm : n ≤ m) : Tl CT p dxp tup sp kd l m said ρ H := by
  obtain ⟨kvs, k1, k2, k3⟩ := h.kn
  exact ⟨h.ins, h.spk, Nat.le_trans h.few hm, kvs, k1, Nat.le_trans k2 hm, k3⟩
theorem Tl.ne (h : Tl CT p dxp tup sp kd l n said ρ H) : p ≠ sp ∧ p ≠ kd ∧ sp ≠ kd := by
  obtain ⟨kvs, k1, _⟩ := h.kn
  refine ⟨fun e => ?_, fun e => ?_, fun e => ?_⟩
  · have h1 := h.ins
    rw [e, h.spk] at h1
    cases h1
  · have h1 := h.ins
    rw [e, k1] at h1
    cases h1
  · have h1 := h.spk
    rw [e, k1] at h1
    cases h1
theorem Tl.kn' {b : List Addr} (k : Kn b H) (h : Tl CT p dxp tup sp kd l n said ρ H') (x : ExT p sp kd H H') : Kn b H' := fun c hc z => by
  by_cases e1 : c = p
  · rw [e1, h.ins] at z; cases z
  by_cases e2 : c = sp
  · rw [e2, h.spk] at z; cases z
  by_cases e3 : c = kd
  · obtain ⟨kvs, k1, _⟩ := h.kn
    rw [e3, k1] at z; cases z
  cases q : H c with
  | none => exact k c hc q
  | some o => rw [x c o e1 e2 e3 q] at z; cases z
end
end Wr

set_option Elab.async false
set_option linter.all false
set_option maxRecDepth 100000
set_option maxHeartbeats 4000000
namespace Wr
open PySem PySem.Spec PyProof.Rows L2 Evl
structure TmC (K : PySem.W.Frag) (CT : Addr) (m q : Str) (st : Stmt) (ps : List Str) (f : Addr) (fd : FuncData) : Prop where
  at_ : Meth K CT m f
  F : Fun K m q st f fd
  b : Binds K fd ps []
structure TlC (K : PySem.W.Frag) (CT : Addr) : Prop where
  c : Cls K CT
  nT : NoAttr K CT "tuples"
  nL : NoAttr K CT "left"
  nS : NoAttr K CT "spoken"
abbrev s_co : Stmt := inClass (topS 17) 7
abbrev s_ty : Stmt := inClass (topS 17) 6
abbrev s_g1 : Stmt := inClass (topS 17) 4
abbrev s_gt : Stmt := inClass (topS 17) 3
theorem sc_co : FnScope ["self"] ["self"] (defScope s_co) := ⟨rfl, rfl, rfl, by decide +kernel, rfl, by decide +kernel, by decide +kernel⟩
abbrev NTy : List Str := ["self", "saying", "known", "deep", "fault"]
theorem sc_ty : FnScope NTy ["self", "saying", "known", "deep"] (defScope s_ty) := ⟨rfl, rfl, rfl, by decide +kernel, rfl, by decide +kernel, by decide +kernel⟩
abbrev NG1 : List Str := ["self", "saying", "known", "deep", "word", "worth"]
theorem sc_g1 : FnScope NG1 ["self", "saying", "known", "deep"] (defScope s_g1) := ⟨rfl, rfl, rfl, by decide +kernel, rfl, by decide +kernel, by decide +kernel⟩
abbrev NGt : List Str := ["self", "sayings", "known", "deep", "saying", "worth"]
theorem sc_gt : FnScope NGt ["self", "sayings", "known", "deep"] (defScope s_gt) := ⟨rfl, rfl, rfl, by decide +kernel, rfl, by decide +kernel, by decide +kernel⟩
def spCo (CT : Addr) : Sp := fun vs H Q _ => ∃ (p dxp tup sp : Addr) (l : Int), vs = [.ref p] ∧ H p = some (.ins CT dxp (tf tup sp l)) ∧ 0 < l ∧ Q .non (upd H p (.ins CT dxp (tf tup sp (l - 1))))
def optV : Option Int → V
  | none => .non
  | some w => .int w
/-- what going through comes to: res of the telling that was -/
def Went (CF CT p dxp tup sp kd : Addr) (l : Int) (n c : Nat) (said : List Int) (H : Hp) (res : Res) (Q : VK) (E : XK) : Prop :=
  (∀ s r ρ', res = (s, .inr r, ρ') → ∀ l' H', l - (c : Nat) ≤ l' → ExT p sp kd H H' → Tl CT p dxp tup sp kd l' (n + c) (said ++ s) ρ' H' → Q (optV r) H') ∧
  ∀ s f ρ', res = (s, .inl f, ρ') → ∀ dx l' Hf, l - (c : Nat) ≤ l' → H dx = none → ExT p sp kd H Hf → Hf dx = some (.xd [("number", .int f)]) → Tl CT p dxp tup sp kd l' (n + c) (said ++ s) ρ' Hf → E (.ref CF) (some dx) Hf
/-- what is handed to a method that goes through d -/
def GoIn (K : PySem.W.Frag) (CT : Addr) (b : List Addr) (p dxp tup sp kd : Addr) (l : Int) (n c : Nat) (said : List Int) (ρ : Env') (u : V) (d : PyData) (H : Hp) : Prop :=
  Kn b H ∧ p ∈ b ∧ sp ∈ b ∧ kd ∈ b ∧ Dq K b H u d ∧ Tl CT p dxp tup sp kd l n said ρ H ∧ ρ.ok ∧ (c : Nat) ≤ l ∧ n + c ≤ 100
def spGT (K : PySem.W.Frag) (CF CT : Addr) : Nat → Sp
  | 0 => fun _ _ _ _ => False
  | lv + 1 => fun vs H Q E => ∃ b p dxp tup sp kd l n said ρ xs u dp, vs = [.ref p, u, .ref kd, dp] ∧ GoIn K CT b p dxp tup sp kd l n (cntL xs) said ρ u (.tuple (xs.map Sx.d)) H ∧ (∀ x ∈ xs, x.ok lv) ∧ xs.length ≤ 6 ∧ Went CF CT p dxp tup sp kd l n (cntL xs) said H (seqG sxO ρ xs) Q E
def spG1 (K : PySem.W.Frag) (CF CT : Addr) (lv : Nat) : Sp := fun vs H Q E => ∃ b p dxp tup sp kd l n said ρ x u dp, vs = [.ref p, u, .ref kd, dp] ∧ GoIn K CT b p dxp tup sp kd l n x.cnt said ρ u x.d H ∧ x.ok lv ∧ Went CF CT p dxp tup sp kd l n x.cnt said H (sxO ρ x) Q E
/-- a try, its own beginning counted before -/
def spTy (K : PySem.W.Frag) (CF CT : Addr) (lv : Nat) : Sp := fun vs H Q E => ∃ b p dxp tup sp kd l n said ρ a y a2 u dp, vs = [.ref p, u, .ref kd, dp] ∧ (Kn b H ∧ p ∈ b ∧ sp ∈ b ∧ kd ∈ b ∧ Dq K b H u (Sx.tri a y a2).d ∧ Tl CT p dxp tup sp kd l n said ρ H ∧ ρ.ok ∧ ((a.length + a2.length : Nat) : Int) ≤ l ∧ n + 1 + (a.length + a2.length) ≤ 100) ∧ (Sx.tri a y a2).ok lv ∧ Went CF CT p dxp tup sp kd l (n + 1) (a.length + a2.length) said H (sxO ρ (.tri a y a2)) Q E
section
variable {P : Program} {w : World} {K : PySem.W.Frag} {mg : Str → Option Value} {base : Heap} {CF fI CT f g g2 g3 : Addr} {fdI fd gd gd2 gd3 : FuncData}
theorem ok_co (C : TlC K CT) (M : TmC K CT "count_one" "Telling.count_one" s_co ["self"] f fd) : FnOk P w K mg base CX0 1 f fd ["self"] (spCo CT) := by
  refine M.F.ok sc_co (fun vs H Q E ⟨p, dxp, tup, sp, l, e, _⟩ => by rw [e]; rfl) (fun cdv A outer s H vs Q E hr h => ?_)
  obtain ⟨p, dxp, tup, sp, l, rfl, hp, hl, q⟩ := h
  refine ⟨_, pss_cons (ps_if (pt_cmpR op_le (pe_fld (pv 0) rfl) pe_int (nomark _)) (pss_one ps_off) pss_nil) (pss_one (ps_fldaug (pv 0) pe_int in_sub)), ?_⟩
  refine ⟨.ref p, rfl, p, CT, dxp, _, .int l, rfl, hp, C.c, C.nL, rfl, l, 0, rfl, rfl, _, rfl, ?_⟩
  rw [decide_eq_false (by omega)]
  show ite (false = true) _ _
  rw [if_neg Bool.false_ne_true]
  exact ⟨.ref p, rfl, p, CT, dxp, _, .int l, rfl, hp, C.c, C.nL, rfl, l, 1, rfl, rfl, dxp, _, hp, by show 3 < 1000; decide, q⟩
end
end Wr

set_option Elab.async false
set_option linter.all false
set_option maxRecDepth 100000
set_option maxHeartbeats 4000000
namespace Wr
open PySem PySem.Spec PyProof.Rows L2 Evl
section
variable {P : Program} {w : World} {K : PySem.W.Frag} {mg : Str → Option Value} {base : Heap} {CF fI CT f g g2 g3 : Addr} {fdI fd gd gd2 gd3 : FuncData}
theorem fls_in {a : List Fl} {lv : Nat} (h : ∀ x ∈ a, x.ok) : ∀ x ∈ a.map Sx.fl, x.ok lv := fun x hx => by
  obtain ⟨y, hy, rfl⟩ := List.mem_map.mp hx
  exact h y hy
theorem ok_ty (lv k : Nat) (T : FtC K mg CF fI fdI) (te : PySem.W.exmOne K (.ref CF) (.ref CF) = some true) (XT : XfC K CF) (C : TlC K CT) (M : TmC K CT "go_through_try" "Telling.go_through_try" s_ty ["self", "saying", "known", "deep"] f fd)
    (M1 : TmC K CT "go_through" "Telling.go_through" s_gt ["self", "sayings", "known", "deep"] g gd) (G1 : FnOk P w K mg base (L2.CX P w) k g gd ["self", "sayings", "known", "deep"] (spGT K CF CT lv)) :
    FnOk P w K mg base (L2.CX P w) (k + 1) f fd ["self", "saying", "known", "deep"] (spTy K CF CT lv) := by
  refine M.F.okX sc_ty (fun vs H Q E ⟨b, p, dxp, tup, sp, kd, l, n, said, ρ, a, y, a2, u, dp, e, _⟩ => by rw [e]; rfl) (fun cdv A outer s H vs Q E hr h => ?_)
  obtain ⟨b, p, dxp, tup, sp, kd, l, n, said, ρ, a, y, a2, u, dp, rfl, ⟨kn, pb, sb, kb, hu, tl, hρ, hcl, hcn⟩, hok, q1, q2⟩ := h
  obtain ⟨hlv, hy, ha, ha2, la, la2⟩ := hok
  obtain ⟨lv', rfl⟩ : ∃ lv', lv = lv' + 1 := ⟨lv - 1, by omega⟩
  have huu := hu1 hr
  refine ⟨_, pss_cons (ps_try_as (i := 4) rfl rfl sc_ty.nd rfl rfl ⟨rfl, by decide, .inl T.m⟩ (takes_of (E := E) rfl rfl rfl rfl)
      (fun W pn xe tkk _ => pss_one (ps_ret (pe_methX (E := WE W) (pv 0) C.c M1.at_ G1 hr M1.b (fun σ => passAt tkk σ) (pa_cons (pe_ix (r := rIxT K) ix_tup (pv 1) pe_int (fun _ _ => rfl)) (pa_cons (pv 2) (pa_cons (pv 3) pa_nil))))))
      (fun a oe cls d pn hz hf => pss_one (ps_dput huu (pv 2) (pe_ix (r := rIxT K) ix_tup (pv 1) pe_int (fun _ _ => rfl)) (pe_xf XT T.n hz hf (pv 4)) rfl)))
    (pss_one (ps_ret (pe_methX (E := WE fun cls d _ H => E cls d H) (pv 0) C.c M1.at_ G1 hr M1.b (fun σ => passAt (takes_of rfl rfl rfl rfl) σ) (pa_cons (pe_ix (r := rIxT K) ix_tup (pv 1) pe_int (fun _ _ => rfl)) (pa_cons (pv 2) (pa_cons (pv 3) pa_nil)))))), ?_⟩
  have hsl : sizeLine = 16777216 := sizeLine_eq
  refine ⟨.ref p, rfl, p, dxp, _, rfl, tl.ins, rfl, ?_⟩
  refine (ed_ixT (K := K) (b := b) (σ := start NTy [.ref p, u, .ref kd, dp]) (ed_var (i := 1) rfl hu) (ed_int (i := 1)) (atI1 (PyData.str "try") (.tuple (a.map Fl.d)) [.str y, .tuple (a2.map Fl.d)])) H (Ex.refl H) _ fun ua H1 x1 hua => ?_
  rw [← map_fl] at hua
  have cA : cntL (a.map .fl) = a.length := cntL_fl a
  refine ⟨.ref kd, rfl, dp, rfl, b, p, dxp, tup, sp, kd, l, n, said, ρ, a.map .fl, ua, dp, rfl, ⟨kn.up x1, pb, sb, kb, hua, tl.up x1, hρ, by rw [cA]; omega, by rw [cA]; omega⟩, fls_in ha, by rw [List.length_map]; exact la, ?_, ?_⟩
  · intro s r ρ' hs l' H' hl' x' tl'
    rw [seq_fl] at hs
    rw [cA] at hl' tl'
    exact q1 s r ρ' (sxO_tri hs) l' H' (by omega) ((ext x1).trans x') (tl'.le (by omega))
  · intro s fn ρ' hs dx l' Hf hl' hdx x' hx tl'
    rw [seq_fl] at hs
    rw [cA] at hl' tl'
    have rok := fls_ok hρ ha
    rw [hs] at rok
    refine ⟨true, te, fun _ ea hea => ?_, fun z => nomatch z⟩
    have huf : Dq K b Hf u (Sx.tri a y a2).d := dp_ex (hid_exT pb sb kb ((ext x1).trans x')) _ _ hu
    have knf : Kn b Hf := tl'.kn' kn ((ext x1).trans x')
    refine ⟨.ref ea, rfl, rfl, rfl, dx, _, .int fn, rfl, hx, rfl, .ref kd, rfl, ?_⟩
    refine (ed_ixT (K := K) (b := b) (σ := [some (.ref p), some u, some (.ref kd), some dp, some (.ref ea)]) (ed_var (i := 1) rfl huf) (ed_int (i := 2)) (atI2 (PyData.str "try") (.tuple (a.map Fl.d)) (.str y) [.tuple (a2.map Fl.d)])) Hf (Ex.refl Hf) _ fun vy H3 x3 hvy => ?_
    have evy := dq_str hvy
    subst evy
    have tl3 := tl'.up x3
    obtain ⟨kvs, hk, hkl, hkv⟩ := tl3.kn
    obtain ⟨n1, n2, n3⟩ := tl3.ne
    refine ⟨kd, _, rfl, .inl ⟨kvs, Sum.inr y, hk, rfl, by rw [hsl]; omega, rfl⟩, ?_⟩
    have tl4 : Tl CT p dxp tup sp kd l' (n + a.length + 1) (said ++ s) (putE ρ' y fn) (upd H3 kd (.dK (putK kvs (Sum.inr y) (.int fn)))) := by
      refine ⟨by rw [upd_ne n2]; exact tl3.ins, by rw [upd_ne n3]; exact tl3.spk, Nat.le_trans tl3.few (by omega), _, upd_same, ?_, fun z => ?_⟩
      · have := length_putK kvs (Sum.inr y) (.int fn)
        omega
      · rw [valV_put]
        unfold putE
        by_cases e : z = y
        · rw [if_pos (by rw [e]), if_pos e]
          rfl
        · rw [if_neg (fun h => e (by injection h)), if_neg e]
          exact hkv z
    have x4 : ExT p sp kd H (upd H3 kd (.dK (putK kvs (Sum.inr y) (.int fn)))) := fun c o c1 c2 c3 z => by
      rw [upd_ne c3]
      exact x3 _ _ (x' c o c1 c2 c3 (x1 _ _ z))
    generalize upd H3 kd (.dK (putK kvs (Sum.inr y) (.int fn))) = H4 at tl4 x4
    have hu4 : Dq K b H4 u (Sx.tri a y a2).d := dp_ex (hid_exT pb sb kb x4) _ _ hu
    have kn4 : Kn b H4 := tl4.kn' kn x4
    refine ⟨.ref p, rfl, p, dxp, _, rfl, tl4.ins, rfl, ?_⟩
    refine (ed_ixT (K := K) (b := b) (σ := [some (.ref p), some u, some (.ref kd), some dp, none]) (ed_var (i := 1) rfl hu4) (ed_int (i := 3)) (atI_nat (j := 3) rfl)) H4 (Ex.refl H4) _ fun ub H5 x5 hub => ?_
    have hub' : Dq K b H5 ub (.tuple (a2.map Fl.d)) := hub
    rw [← map_fl] at hub'
    have cB : cntL (a2.map .fl) = a2.length := cntL_fl a2
    refine ⟨.ref kd, rfl, dp, rfl, b, p, dxp, tup, sp, kd, l', n + a.length + 1, said ++ s, putE ρ' y fn, a2.map .fl, ub, dp, rfl, ⟨kn4.up x5, pb, sb, kb, hub', tl4.up x5, putE_ok rok.1 (rok.2.1 fn rfl), by rw [cB]; omega, by rw [cB]; omega⟩, fls_in ha2, by rw [List.length_map]; exact la2, ?_, ?_⟩
    · intro s2 r ρ2 hs2 l2 H6 hl2 x6 tl6
      rw [seq_fl] at hs2
      rw [cB] at hl2 tl6
      refine q1 (s ++ s2) r ρ2 ?_ l2 H6 (by omega) (x4.trans ((ext x5).trans x6)) ?_
      · rw [sxO_triF hs, hs2]
      · rw [← List.append_assoc]
        exact tl6.le (by omega)
    · intro s2 f2 ρ2 hs2 dx2 l2 H6 hl2 hdx2 x6 hx6 tl6
      rw [seq_fl] at hs2
      rw [cB] at hl2 tl6
      refine q2 (s ++ s2) f2 ρ2 ?_ dx2 l2 H6 (by omega) ?_ (x4.trans ((ext x5).trans x6)) hx6 ?_
      · rw [sxO_triF hs, hs2]
      · cases z : H dx2 with
        | none => rfl
        | some o =>
          have h5 : H5 p ≠ none := by rw [(tl4.up x5).ins]; intro z'; cases z'
          have c1 : dx2 ≠ p := fun e => h5 (e ▸ hdx2)
          have h6 : H5 sp ≠ none := by rw [(tl4.up x5).spk]; intro z'; cases z'
          have c2 : dx2 ≠ sp := fun e => h6 (e ▸ hdx2)
          obtain ⟨kvs5, hk5, _⟩ := (tl4.up x5).kn
          have h7 : H5 kd ≠ none := by rw [hk5]; intro z'; cases z'
          have c3 : dx2 ≠ kd := fun e => h7 (e ▸ hdx2)
          rw [x5 _ _ (x4 dx2 o c1 c2 c3 z)] at hdx2
          cases hdx2
      · rw [← List.append_assoc]
        exact tl6.le (by omega)
end
end Wr

set_option Elab.async false
set_option linter.all false
set_option maxRecDepth 100000
set_option maxHeartbeats 4000000
namespace Wr
open PySem PySem.Spec PyProof.Rows L2 Evl
theorem none_of {p sp kd : Addr} {CT dxp tup : Addr} {l : Int} {n : Nat} {said : List Int} {ρ : Env'} {H H' : Hp} {dx : Addr} (x : ExT p sp kd H H') (tl : Tl CT p dxp tup sp kd l n said ρ H') (h : H' dx = none) : H dx = none := by
  cases z : H dx with
  | none => rfl
  | some o =>
    have c1 : dx ≠ p := fun e => by rw [e, tl.ins] at h; cases h
    have c2 : dx ≠ sp := fun e => by rw [e, tl.spk] at h; cases h
    obtain ⟨kvs, hk, _⟩ := tl.kn
    have c3 : dx ≠ kd := fun e => by rw [e, hk] at h; cases h
    rw [x dx o c1 c2 c3 z] at h
    cases h
theorem Fl.w_ok : ∀ f : Fl, PyData.strOk f.w = true
  | .say _ => show PyData.strOk "say" = true by decide +kernel
  | .bk _ => show PyData.strOk "back" = true by decide +kernel
  | .th _ => show PyData.strOk "throw" = true by decide +kernel
theorem w3 : ∀ x : Str, x = "say" ∨ x = "back" ∨ x = "throw" → x ≠ "try" ∧ x ≠ "while" ∧ x ≠ "set" ∧ x ≠ "if" := by
  rintro x (rfl | rfl | rfl) <;> decide +kernel
theorem Fl.w_not : ∀ f : Fl, f.w ≠ "try" ∧ f.w ≠ "while" ∧ f.w ≠ "set" ∧ f.w ≠ "if"
  | .say _ => w3 _ (.inl rfl)
  | .bk _ => w3 _ (.inr (.inl rfl))
  | .th _ => w3 _ (.inr (.inr rfl))
theorem gas {i : Nat} {v : V} {ts : TS} {D : Ends} {σ : L2.St} {H : Hp} (h : ts D (σ.set i (some v)) H) : gName i v σ H ({ D with nx := ts D } : Ends).nx := h
section
variable {P : Program} {w : World} {K : PySem.W.Frag} {mg : Str → Option Value} {base : Heap} {CF fI CT f g g2 g3 g4 : Addr} {fdI fd gd gd2 gd3 gd4 : FuncData}
theorem ok_g1 (lv k : Nat) (hk : 8 ≤ k) (T : FtC K mg CF fI fdI) (C : TlC K CT) (M : TmC K CT "go_through_one" "Telling.go_through_one" s_g1 ["self", "saying", "known", "deep"] f fd)
    (M1 : TmC K CT "go_through" "Telling.go_through" s_gt ["self", "sayings", "known", "deep"] g gd) (G1 : FnOk P w K mg base (L2.CX P w) k g gd ["self", "sayings", "known", "deep"] (spGT K CF CT lv))
    (M2 : TmC K CT "go_through_try" "Telling.go_through_try" s_ty ["self", "saying", "known", "deep"] g2 gd2) (G2 : FnOk P w K mg base (L2.CX P w) k g2 gd2 ["self", "saying", "known", "deep"] (spTy K CF CT lv))
    (M3 : TmC K CT "worth_of" "Telling.worth_of" s_wo ["self", "value", "known", "deep"] g3 gd3) (G3 : FnOk P w K mg base (L2.CX P w) 8 g3 gd3 ["self", "value", "known", "deep"] (spW K CF CT 4))
    (M4 : TmC K CT "count_one" "Telling.count_one" s_co ["self"] g4 gd4) :
    FnOk P w K mg base (L2.CX P w) (k + 1) f fd ["self", "saying", "known", "deep"] (spG1 K CF CT lv) := by
  refine M.F.okX sc_g1 (fun vs H Q E ⟨b, p, dxp, tup, sp, kd, l, n, said, ρ, x, u, dp, e, _⟩ => by rw [e]; rfl) (fun cdv A outer s H vs Q E hr h => ?_)
  obtain ⟨b, p, dxp, tup, sp, kd, l, n, said, ρ, x, u, dp, rfl, ⟨kn, pb, sb, kb, hu, tl, hρ, hcl, hcn⟩, hok, q1, q2⟩ := h
  have G4 := ok_co (P := P) (w := w) (mg := mg) (base := base) C M4
  have r1 : Room 1 _ := hr.mono (by omega)
  have r2 : Room 2 _ := hr.mono (by omega)
  have r8 : Room 8 _ := hr.mono hk
  refine ⟨_, pss_cons (ps_expr (pe_meth0 (pv 0) C.c M4.at_ G4 r1 M4.b .nil pass0))
    (pss_cons (ps_set (i := 4) sc_g1.nd rfl (Or.inl rfl) (pe_ix (r := rIxT K) ix_tup (pv 1) pe_int (fun _ _ => rfl)))
    (pss_cons (ps_if (pt_cmpR (op_eqD (hu64 hr)) (pv 4) pe_str (nomark _)) (pss_one (ps_ret (pe_methX (E := WE fun cls d _ H => E cls d H) (pv 0) C.c M2.at_ G2 hr M2.b (fun σ => passAt (takes_of rfl rfl rfl rfl) σ) (pa_cons (pv 1) (pa_cons (pv 2) (pa_cons (pv 3) pa_nil)))))) pss_nil)
    (pss_cons (ps_if (pt_cmpR (op_eqD (hu64 hr)) (pv 4) pe_str (nomark _)) (pss_one ps_off) pss_nil)
    (pss_cons (ps_if (pt_cmpR (op_eqD (hu64 hr)) (pv 4) pe_str (nomark _)) (pss_cons ps_off (pss_one ps_off)) pss_nil)
    (pss_cons (ps_set (i := 5) sc_g1.nd rfl (Or.inl rfl) (pe_methX (E := WE fun cls d _ H => E cls d H) (pv 0) C.c M3.at_ G3 r8 M3.b (fun σ => passAt (takes_of rfl rfl rfl rfl) σ) (pa_cons (pe_ix (r := rIxT K) ix_tup (pv 1) pe_int (fun _ _ => rfl)) (pa_cons (pv 2) (pa_cons (pv 3) pa_nil)))))
    (pss_cons (ps_if (pt_cmpR (op_eqD (hu64 hr)) (pv 4) pe_str (nomark _)) (pss_one (ps_ret (pe_methX (E := WE fun cls d _ H => E cls d H) (pv 0) C.c M1.at_ G1 hr M1.b (fun σ => passAt (takes_of rfl rfl rfl rfl) σ) (pa_cons (pe_ifExp (pt_cmpR (op_neD (hu64 hr)) (pv 5) pe_int (nomark _)) (pe_ix (r := rIxT K) ix_tup (pv 1) pe_int (fun _ _ => rfl)) (pe_ix (r := rIxT K) ix_tup (pv 1) pe_int (fun _ _ => rfl))) (pa_cons (pv 2) (pa_cons (pv 3) pa_nil)))))) pss_nil)
    (pss_cons (ps_if (pt_cmpR (op_eqD (hu64 hr)) (pv 4) pe_str (nomark _)) (pss_one (ps_ft (W := fun cls d _ H => E cls d H) T rfl (takes_of rfl rfl rfl rfl) r2 (pv 5))) pss_nil)
    (pss_cons (ps_if (pt_cmpR (op_eqD (hu64 hr)) (pv 4) pe_str (nomark _)) (pss_one (ps_ret (pv 5))) pss_nil)
    (pss_cons (ps_expr (pe_bm PySem.F.plainAttrs_list PySem.F.slot_list_append PySem.F.type_list_append mt_append (pe_fld (pv 0) rfl) (pa_cons (pv 5) pa_nil)))
    (pss_one (ps_ret pe_non))))))))))), ?_⟩
  have hsl : sizeLine = 16777216 := sizeLine_eq
  have c1 : 1 ≤ x.cnt := by cases x <;> simp only [Sx.cnt] <;> omega
  obtain ⟨n1, n2, n3⟩ := tl.ne
  refine ⟨.ref p, rfl, p, dxp, _, rfl, tl.ins, rfl, p, dxp, tup, sp, l, rfl, tl.ins, by omega, ?_⟩
  have tl0 : Tl CT p dxp tup sp kd (l - 1) n said ρ (upd H p (.ins CT dxp (tf tup sp (l - 1)))) := by
    obtain ⟨kvs, k1, k2⟩ := tl.kn
    exact ⟨upd_same, by rw [upd_ne (Ne.symm n1)]; exact tl.spk, tl.few, kvs, by rw [upd_ne (Ne.symm n2)]; exact k1, k2⟩
  have x0 : ExT p sp kd H (upd H p (.ins CT dxp (tf tup sp (l - 1)))) := fun c o c1 _ _ z => by rw [upd_ne c1]; exact z
  generalize upd H p (.ins CT dxp (tf tup sp (l - 1))) = H0 at tl0 x0
  have hu0 : Dq K b H0 u x.d := dp_ex (hid_exT pb sb kb x0) _ _ hu
  have kn0 : Kn b H0 := tl0.kn' kn x0
  obtain ⟨wd, rest, hxd, hwd⟩ : ∃ wd rest, x.d = .tuple (.str wd :: rest) ∧ PyData.strOk wd = true := by
    cases x with
    | fl f => exact ⟨_, _, rfl, f.w_ok⟩
    | ite v a b => exact ⟨_, _, rfl, by decide +kernel⟩
    | tri a y b => exact ⟨_, _, rfl, by decide +kernel⟩
  have hu0' := hu0
  rw [hxd] at hu0'
  refine g_set (ed_ixT (K := K) (b := b) (ed_var (σ := start NG1 [.ref p, u, .ref kd, dp]) (i := 1) rfl hu0') (ed_int (i := 0)) (atI0 _ _)) fun v4 H1 x1 h4 => ?_
  have e4 := dq_str h4
  subst e4
  have tw : ∀ (y : Str) (y5 : Option V) (H' : Hp), PyData.strOk y = true → EvT (tTest (tOp (rEqD K) (tVar 4) (tC (.str y)))) [some (.ref p), some u, some (.ref kd), some dp, some (.str wd), y5] H' (decide (wd = y)) := fun y y5 H' hy => by
    have := et_t (ed_eq (K := K) (b := b) (ed_var (σ := [some (.ref p), some u, some (.ref kd), some dp, some (.str wd), y5]) (H := H') (i := 4) (d := .str wd) rfl (.str _)) (ed_str (x := y)) (sh_str hwd) (sh_str hy))
    rw [strEq] at this
    exact this
  have twN : ∀ (y : Str) (y5 : Option V) (H' : Hp), PyData.strOk y = true → wd ≠ y → EvT (tTest (tOp (rEqD K) (tVar 4) (tC (.str y)))) [some (.ref p), some u, some (.ref kd), some dp, some (.str wd), y5] H' false := fun y y5 H' hy hne => by
    have := tw y y5 H' hy
    rw [decide_eq_false hne] at this
    exact this
  have twY : ∀ (y : Str) (y5 : Option V) (H' : Hp), PyData.strOk y = true → wd = y → EvT (tTest (tOp (rEqD K) (tVar 4) (tC (.str y)))) [some (.ref p), some u, some (.ref kd), some dp, some (.str wd), y5] H' true := fun y y5 H' hy he => by
    have := tw y y5 H' hy
    rw [decide_eq_true he] at this
    exact this
  show tSeq (tIfS _ _ _) _ _ [some (.ref p), some u, some (.ref kd), some dp, some (.str wd), none] H1
  have xa := x0.trans (ext x1)
  cases x with
  | tri a y a2 =>
    have ew : wd = "try" := by
      have : PyData.tuple [.str "try", .tuple (a.map Fl.d), .str y, .tuple (a2.map Fl.d)] = .tuple (.str wd :: rest) := hxd
      injection this with this
      injection this with this _
      injection this with this
      exact this.symm
    refine g_yes (twY "try" none H1 (by decide +kernel) ew) fun H2 x2 => ?_
    have xb := xa.trans (ext x2)
    have tl2 := (tl0.up x1).up x2
    have ec : (Sx.tri a y a2).cnt = 1 + a.length + a2.length := rfl
    rw [ec] at hcl hcn q1 q2
    refine ⟨.ref p, rfl, p, dxp, _, rfl, tl2.ins, rfl, u, rfl, .ref kd, rfl, dp, rfl, b, p, dxp, tup, sp, kd, l - 1, n, said, ρ, a, y, a2, u, dp, rfl, ⟨tl2.kn' kn xb, pb, sb, kb, dp_ex (hid_exT pb sb kb xb) _ _ hu, tl2, hρ, by omega, by omega⟩, hok, ?_, ?_⟩
    · intro s r ρ' hs l' H' hl' x' tl'
      exact q1 s r ρ' hs l' H' (by omega) (xb.trans x') (tl'.le (by omega))
    · intro s fn ρ' hs dx l' Hf hl' hdx x' hx tl'
      exact q2 s fn ρ' hs dx l' Hf (by omega) (none_of xb tl2 hdx) (xb.trans x') hx (tl'.le (by omega))
  | ite v a a2 =>
    obtain ⟨hlv, vok, vdep, ha, ha2, la, la2⟩ := hok
    obtain ⟨lv', rfl⟩ : ∃ lv', lv = lv' + 1 := ⟨lv - 1, by omega⟩
    have ew : wd = "if" := by
      have : PyData.tuple [.str "if", v.d, .tuple (a.map Fl.d), .tuple (a2.map Fl.d)] = .tuple (.str wd :: rest) := hxd
      injection this with this
      injection this with this _
      injection this with this
      exact this.symm
    have ec : (Sx.ite v a a2).cnt = 1 + a.length + a2.length := rfl
    rw [ec] at hcl hcn q1 q2
    refine g_no (twN "try" none H1 (by decide +kernel) (by rw [ew]; decide)) fun H2 x2 => ?_
    refine g_no (twN "while" none H2 (by decide +kernel) (by rw [ew]; decide)) fun H3 x3 => ?_
    refine g_no (twN "set" none H3 (by decide +kernel) (by rw [ew]; decide)) fun H4 x4 => ?_
    have xb := ((xa.trans (ext x2)).trans (ext x3)).trans (ext x4)
    have tl4 := (((tl0.up x1).up x2).up x3).up x4
    have hu4 : Dq K b H4 u (Sx.ite v a a2).d := dp_ex (hid_exT pb sb kb xb) _ _ hu
    refine ⟨.ref p, rfl, p, dxp, _, rfl, tl4.ins, rfl, ?_⟩
    refine (ed_ixT (K := K) (b := b) (σ := [some (.ref p), some u, some (.ref kd), some dp, some (.str wd), none]) (ed_var (i := 1) rfl hu4) (ed_int (i := 1)) (atI1 (PyData.str "if") v.d [.tuple (a.map Fl.d), .tuple (a2.map Fl.d)])) H4 (Ex.refl H4) _ fun uv H5 x5 hv => ?_
    have tl5 := tl4.up x5
    have xc := xb.trans (ext x5)
    refine ⟨.ref kd, rfl, dp, rfl, b, p, dxp, tup, sp, kd, l - 1, ρ, v, uv, dp, rfl, tl5.kn' kn xc, hv, vok, vdep, tl5.ins, tl5.knd (by omega), hρ, fun wv hw H6 x6 => ?_, fun fv hf dx Hf hdx xf hfx => ?_⟩
    · refine gas ?_
      refine g_yes (twY "if" _ H6 (by decide +kernel) ew) fun H7 x7 => ?_
      have tl7 := (tl5.up x6).up x7
      have xd := (xc.trans (ext x6)).trans (ext x7)
      have hu7 : Dq K b H7 u (Sx.ite v a a2).d := dp_ex (hid_exT pb sb kb xd) _ _ hu
      refine ⟨.ref p, rfl, p, dxp, _, rfl, tl7.ins, rfl, ?_⟩
      have tn := et_t (ed_ne (K := K) (b := b) (ed_var (σ := [some (.ref p), some u, some (.ref kd), some dp, some (.str wd), some (.int wv)]) (H := H7) (i := 5) (d := .int wv) rfl (.int _)) (ed_int (i := 0)) (sh_int _) (sh_int _))
      rw [eqv_int] at tn
      have e2 := ed_ixT (K := K) (b := b) (σ := [some (.ref p), some u, some (.ref kd), some dp, some (.str wd), some (.int wv)]) (ed_var (i := 1) rfl hu7) (ed_int (i := 2)) (atI2 (PyData.str "if") v.d (.tuple (a.map Fl.d)) [.tuple (a2.map Fl.d)])
      have e3 := ed_ixT (K := K) (b := b) (σ := [some (.ref p), some u, some (.ref kd), some dp, some (.str wd), some (.int wv)]) (ed_var (i := 1) rfl hu7) (ed_int (i := 3)) (show atI [PyData.str "if", v.d, .tuple (a.map Fl.d), .tuple (a2.map Fl.d)] 3 = some (.tuple (a2.map Fl.d)) from atI_nat (j := 3) rfl)
      have ed := ed_if tn (fun _ => e2) fun _ => e3
      have eds : (if (!(wv == 0)) = true then PyData.tuple (a.map Fl.d) else .tuple (a2.map Fl.d)) = .tuple ((((if wv = 0 then a2 else a) : List Fl).map Sx.fl).map Sx.d) := by
        rw [map_fl]
        by_cases c : wv = 0
        · rw [if_pos c, c]
          rfl
        · rw [if_neg c, beq_eq_false_iff_ne.mpr c]
          rfl
      rw [eds] at ed
      refine ed H7 (Ex.refl H7) _ fun us H8 x8 hus => ?_
      have hres := sxO_ite (a := a) (b := a2) hw
      have lab : ((if wv = 0 then a2 else a) : List Fl).length ≤ a.length + a2.length := by split <;> omega
      have lab6 : ((if wv = 0 then a2 else a) : List Fl).length ≤ 6 := by split <;> omega
      have hab' : ∀ f ∈ ((if wv = 0 then a2 else a) : List Fl), f.ok := by split <;> assumption
      generalize ((if wv = 0 then a2 else a) : List Fl) = ab at hus hres lab lab6 hab'
      have cA : cntL (ab.map .fl) = ab.length := cntL_fl ab
      have tl8 := tl7.up x8
      have xe := xd.trans (ext x8)
      refine ⟨.ref kd, rfl, dp, rfl, b, p, dxp, tup, sp, kd, l - 1, n, said, ρ, ab.map .fl, us, dp, rfl, ⟨tl8.kn' kn xe, pb, sb, kb, hus, tl8, hρ, by rw [cA]; omega, by rw [cA]; omega⟩, fls_in hab', by rw [List.length_map]; exact lab6, ?_, ?_⟩
      · intro s r ρ' hs l' H' hl' x' tl'
        rw [seq_fl] at hs
        rw [cA] at hl' tl'
        exact q1 s r ρ' (hres.trans hs) l' H' (by omega) (xe.trans x') (tl'.le (by omega))
      · intro s fn ρ' hs dx l' Hf hl' hdx x' hx tl'
        rw [seq_fl] at hs
        rw [cA] at hl' tl'
        exact q2 s fn ρ' (hres.trans hs) dx l' Hf (by omega) (none_of xe tl8 hdx) (xe.trans x') hx (tl'.le (by omega))
    · refine q2 [] fv ρ (sxO_iteF hf) dx (l - 1) Hf (by omega) (none_of xc tl5 hdx) (xc.trans (ext xf)) hfx ?_
      rw [List.append_nil]
      exact (tl5.up xf).le (by omega)
  | fl fx =>
    have ew : wd = fx.w := by
      have : PyData.tuple [.str fx.w, fx.v.d] = .tuple (.str wd :: rest) := hxd
      injection this with this
      injection this with this _
      injection this with this
      exact this.symm
    have ec : (Sx.fl fx).cnt = 1 := rfl
    rw [ec] at hcl hcn q1 q2
    have nw := fx.w_not
    refine g_no (twN "try" none H1 (by decide +kernel) (by rw [ew]; exact nw.1)) fun H2 x2 => ?_
    refine g_no (twN "while" none H2 (by decide +kernel) (by rw [ew]; exact nw.2.1)) fun H3 x3 => ?_
    refine g_no (twN "set" none H3 (by decide +kernel) (by rw [ew]; exact nw.2.2.1)) fun H4 x4 => ?_
    have xb := ((xa.trans (ext x2)).trans (ext x3)).trans (ext x4)
    have tl4 := (((tl0.up x1).up x2).up x3).up x4
    have hu4 : Dq K b H4 u fx.d := dp_ex (hid_exT pb sb kb xb) _ _ hu
    refine ⟨.ref p, rfl, p, dxp, _, rfl, tl4.ins, rfl, ?_⟩
    refine (ed_ixT (K := K) (b := b) (σ := [some (.ref p), some u, some (.ref kd), some dp, some (.str wd), none]) (ed_var (i := 1) rfl hu4) (ed_int (i := 1)) (atI1 (PyData.str fx.w) fx.v.d [])) H4 (Ex.refl H4) _ fun uv H5 x5 hv => ?_
    have tl5 := tl4.up x5
    have xc := xb.trans (ext x5)
    refine ⟨.ref kd, rfl, dp, rfl, b, p, dxp, tup, sp, kd, l - 1, ρ, fx.v, uv, dp, rfl, tl5.kn' kn xc, hv, hok.1, hok.2, tl5.ins, tl5.knd (by omega), hρ, fun wv hw H6 x6 => ?_, fun fv hf dx Hf hdx xf hfx => ?_⟩
    · refine gas ?_
      refine g_no (twN "if" _ H6 (by decide +kernel) (by rw [ew]; exact nw.2.2.2)) fun H7 x7 => ?_
      have tl7 := (tl5.up x6).up x7
      have xd := (xc.trans (ext x6)).trans (ext x7)
      have ww := ev_ok hρ hok.1 hw
      cases fx with
      | th v =>
        refine g_yes (twY "throw" _ H7 (by decide +kernel) ew) fun H8 x8 => ?_
        have big : (1000000000001 : Nat) < 10 ^ 45 := by decide
        refine mk_ft T.T T.n (by have := ww.1; have := ww.2; omega) ⟨.int wv, rfl, rfl, rfl⟩ (fun dx Hf hdx xf hfx => ?_) fun Q Q' hq ⟨v, e, z⟩ => ⟨v, e, hq _ _ z⟩
        refine q2 [] wv ρ (flO_th hw) dx (l - 1) Hf (by omega) (none_of (xd.trans (ext x8)) (tl7.up x8) hdx) ((xd.trans (ext x8)).trans (ext xf)) hfx ?_
        rw [List.append_nil]
        exact ((tl7.up x8).up xf).le (by omega)
      | bk v =>
        refine g_no (twN "throw" _ H7 (by decide +kernel) (by rw [ew]; show ("back" : Str) ≠ "throw"; decide)) fun H8 x8 => ?_
        refine g_yes (twY "back" _ H8 (by decide +kernel) ew) fun H9 x9 => ?_
        refine ⟨.int wv, rfl, ?_⟩
        refine q1 [] (some wv) ρ (flO_bk hw) (l - 1) H9 (by omega) ((xd.trans (ext x8)).trans (ext x9)) ?_
        rw [List.append_nil]
        exact ((tl7.up x8).up x9).le (by omega)
      | say v =>
        refine g_no (twN "throw" _ H7 (by decide +kernel) (by rw [ew]; show ("say" : Str) ≠ "throw"; decide)) fun H8 x8 => ?_
        refine g_no (twN "back" _ H8 (by decide +kernel) (by rw [ew]; show ("say" : Str) ≠ "back"; decide)) fun H9 x9 => ?_
        have tl9 := (tl7.up x8).up x9
        have xe := (xd.trans (ext x8)).trans (ext x9)
        have few := tl9.few
        refine ⟨.ref p, rfl, p, CT, dxp, _, .ref sp, rfl, tl9.ins, C.c, C.nS, rfl, .inl ⟨rfl, _, .inl (.inl tl9.spk)⟩, .int wv, rfl, sp, _, .int wv, rfl, rfl, tl9.spk, by rw [List.length_map, hsl]; omega, ?_⟩
        refine q1 [wv] none ρ (flO_say hw) (l - 1) _ (by omega) (fun c o d1 d2 d3 z => by rw [upd_ne d2]; exact xe c o d1 d2 d3 z) ?_
        obtain ⟨kvs, k1, k2, k3⟩ := tl9.kn
        refine ⟨by rw [upd_ne n1]; exact tl9.ins, by rw [upd_same, List.map_append]; rfl, by rw [List.length_append, List.length_singleton]; omega, kvs, by rw [upd_ne (Ne.symm n3)]; exact k1, by omega, k3⟩
    · refine q2 [] fv ρ (flO_flt hf) dx (l - 1) Hf (by omega) (none_of xc tl5 hdx) (xc.trans (ext xf)) hfx ?_
      rw [List.append_nil]
      exact (tl5.up xf).le (by omega)
end
end Wr

set_option Elab.async false
set_option linter.all false
set_option maxRecDepth 100000
set_option maxHeartbeats 4000000
namespace Wr
open PySem PySem.Spec PyProof.Rows L2 Evl
theorem cnt_split : ∀ (xs : List Sx) (i : Nat), cntL (xs.take i) + cntL (xs.drop i) = cntL xs
  | [], i => by simp [cntL]
  | x :: r, 0 => by simp [cntL]
  | x :: r, i + 1 => by
    have := cnt_split r i
    show x.cnt + cntL (r.take i) + cntL (r.drop i) = x.cnt + cntL r
    omega
theorem cnt_drop {xs : List Sx} {i : Nat} {x : Sx} (h : xs[i]? = some x) : cntL (xs.drop i) = x.cnt + cntL (xs.drop (i + 1)) ∧ xs.drop i = x :: xs.drop (i + 1) := by
  obtain ⟨hi, e⟩ := List.getElem?_eq_some_iff.mp h
  have := List.drop_eq_getElem_cons hi
  rw [e] at this
  exact ⟨by rw [this]; rfl, this⟩
section
variable {P : Program} {w : World} {K : PySem.W.Frag} {mg : Str → Option Value} {base : Heap} {CF fI CT f g g2 g3 g4 : Addr} {fdI fd gd gd2 gd3 gd4 : FuncData}
theorem ok_gt (lv k : Nat) (C : TlC K CT) (M : TmC K CT "go_through" "Telling.go_through" s_gt ["self", "sayings", "known", "deep"] f fd)
    (M1 : TmC K CT "go_through_one" "Telling.go_through_one" s_g1 ["self", "saying", "known", "deep"] g gd) (G1 : FnOk P w K mg base (L2.CX P w) k g gd ["self", "saying", "known", "deep"] (spG1 K CF CT lv)) :
    FnOk P w K mg base (L2.CX P w) (k + 1) f fd ["self", "sayings", "known", "deep"] (spGT K CF CT (lv + 1)) := by
  refine M.F.okX sc_gt (fun vs H Q E ⟨b, p, dxp, tup, sp, kd, l, n, said, ρ, xs, u, dp, e, _⟩ => by rw [e]; rfl) (fun cdv A outer s H vs Q E hr h => ?_)
  obtain ⟨b, p, dxp, tup, sp, kd, l, n, said, ρ, xs, u, dp, rfl, ⟨kn, pb, sb, kb, hu, tl, hρ, hcl, hcn⟩, hok, hl6, q1, q2⟩ := h
  refine ⟨_, pss_cons (ps_for (passes_of rfl) rfl (pi_tup (pv 1)) (pg_name (i := 4) sc_gt.nd rfl (Or.inl rfl))
      (pss_cons (ps_set (i := 5) sc_gt.nd rfl (Or.inl rfl) (pe_methX (E := WE fun cls d _ H => E cls d H) (pv 0) C.c M1.at_ G1 hr M1.b (fun σ => passAt (takes_of rfl rfl rfl rfl) σ) (pa_cons (pv 4) (pa_cons (pv 2) (pa_cons (pv 3) pa_nil)))))
      (pss_one (ps_if (pt_cmp (pc_notN (pv 5))) (pss_one (ps_ret (pv 5))) pss_nil))))
    (pss_one (ps_ret pe_non)), ?_⟩
  have hsl : sizeLine = 16777216 := sizeLine_eq
  have hu' := hu
  cases hu' with
  | @tup ta xs' _ g1 gn g2 =>
  have hl := dps_len g2
  rw [List.length_map] at hl
  have keep : ∀ {H'}, ExT p sp kd H H' → Ex (hid b H) (hid b H') := fun x => hid_exT pb sb kb x
  refine ⟨.ref ta, rfl, ta, rfl, ⟨xs', ex_t hid_le g1⟩, ?_⟩
  refine for_tup (xs := xs') (Pv := fun i σ' H' => (∃ y4 y5, σ' = [some (.ref p), some (.ref ta), some (.ref kd), some dp, y4, y5]) ∧ ∃ l' s ρ', ExT p sp kd H H' ∧ Tl CT p dxp tup sp kd l' (n + cntL (xs.take i)) (said ++ s) ρ' H' ∧ ρ'.ok ∧ l - (cntL (xs.take i) : Nat) ≤ l' ∧ seqG sxO ρ xs = (s ++ (seqG sxO ρ' (xs.drop i)).1, (seqG sxO ρ' (xs.drop i)).2.1, (seqG sxO ρ' (xs.drop i)).2.2)) ?_ ?_ ?_ ?_
  · refine ⟨⟨none, none, rfl⟩, l, [], ρ, ExT.refl _ _ _ _, by rw [List.append_nil]; exact tl, hρ, ?_, rfl⟩
    show l - ((0 : Nat) : Int) ≤ l
    omega
  · rintro i σ' H' _ ⟨_, l', s, ρ', x', _⟩
    exact ex_t (fun c o z => hid_le _ _ (keep x' _ _ z)) g1
  · rintro i x σ' H' hx ⟨⟨y4, y5, rfl⟩, l', s, ρ', x', tl', hρ', hl', hseq⟩
    obtain ⟨d, hd, dd⟩ := dps_at g2 hx
    rw [List.getElem?_map] at hd
    cases hz : xs[i]? with
    | none => rw [hz] at hd; cases hd
    | some sx =>
    rw [hz] at hd
    have ed : sx.d = d := Option.some.inj hd
    subst ed
    obtain ⟨cd, ed⟩ := cnt_drop hz
    have csp := cnt_split xs i
    have csp2 := cnt_split xs (i + 1)
    have okx := hok sx (List.mem_of_getElem? hz)
    rw [ed] at hseq
    refine ⟨.ref p, rfl, p, dxp, _, rfl, tl'.ins, rfl, x, rfl, .ref kd, rfl, dp, rfl, b, p, dxp, tup, sp, kd, l', n + cntL (xs.take i), said ++ s, ρ', sx, x, dp, rfl, ⟨tl'.kn' kn x', pb, sb, kb, dp_ex (keep x') _ _ dd, tl', hρ', by omega, by omega⟩, okx, ?_, ?_⟩
    · intro s2 r ρ2 hs2 l2 H2 hl2 x2 tl2
      have rok := sxO_ok hρ' okx
      rw [hs2] at rok
      cases r with
      | none =>
        rw [seq_next hs2] at hseq
        refine gas ?_
        refine ⟨.non, rfl, _, rfl, ?_⟩
        show ite (false = true) _ _
        rw [if_neg Bool.false_ne_true]
        refine ⟨⟨_, _, rfl⟩, l2, s ++ s2, ρ2, x'.trans x2, ?_, rok.1, by omega, ?_⟩
        · rw [← List.append_assoc]
          exact tl2.le (by omega)
        · rw [hseq, List.append_assoc]
      | some wv =>
        rw [seq_ret hs2] at hseq
        refine gas ?_
        refine ⟨.int wv, rfl, _, rfl, ?_⟩
        show ite (true = true) _ _
        rw [if_pos rfl]
        refine ⟨.int wv, rfl, q1 (s ++ s2) (some wv) ρ2 hseq l2 H2 (by omega) (x'.trans x2) ?_⟩
        rw [← List.append_assoc]
        exact tl2.le (by omega)
    · intro s2 fn ρ2 hs2 dx l2 Hf hl2 hdx x2 hfx tl2
      rw [seq_flt hs2] at hseq
      refine q2 (s ++ s2) fn ρ2 hseq dx l2 Hf (by omega) (none_of x' tl' hdx) (x'.trans x2) hfx ?_
      rw [← List.append_assoc]
      exact tl2.le (by omega)
  · rintro σ' H' ⟨⟨y4, y5, rfl⟩, l', s, ρ', x', tl', hρ', hl', hseq⟩
    rw [hl, List.drop_length] at hseq
    rw [hl, List.take_length] at tl' hl'
    have hseq' : seqG sxO ρ xs = (s, .inr none, ρ') := by
      rw [hseq]
      show (s ++ [], _, _) = _
      rw [List.append_nil]
      rfl
    exact q1 s none ρ' hseq' l' H' hl' x' tl'
end
end Wr

set_option Elab.async false
set_option linter.all false
set_option maxRecDepth 100000
set_option maxHeartbeats 4000000
namespace Wr
open PySem PySem.Spec PyProof.Rows L2 Evl
section
variable {X : Cx}
/-- name = {..} on one line, the name a local -/
theorem ps_setDc {i : Nat} {y : Str} {py : Pos} {kx vx tg iter : Expr} {ifs : List Expr} {scope : Scope} {own : List (Str × Nat)} {pos spos : Pos} {wi : TI} {g : TG} {tt : TT} {tk tv : TE} (hc : X.calm = true) (hN : X.N.Nodup) (hy : X.N[i]? = some y) (hyl : X.env.scope.names.lookup y = some .local)
    (hsw : swapsWith (.DictComp kx vx [⟨tg, iter, ifs, 0⟩] scope pos) (some (.Name y py)) spos.line X.env = pure true) (hi : PI X tg iter wi) (ok : BlkOk X.N X.env.scope scope own)
    (hg : ∀ (s : Shared) (H : Hp) (C : Addr) (cl : List (Str × Addr)) (fp : List Addr), PG (X.blk s H scope (compEnvC scope cl C X.env) fp) tg g)
    (ht : ∀ (s : Shared) (H : Hp) (C : Addr) (cl : List (Str × Addr)) (fp : List Addr), PTs (X.blk s H scope (compEnvC scope cl C X.env) fp) ifs tt) (hk : ∀ (s : Shared) (H : Hp) (C : Addr) (cl : List (Str × Addr)) (fp : List Addr), PE (X.blk s H scope (compEnvC scope cl C X.env) fp) kx tk)
    (he : ∀ (s : Shared) (H : Hp) (C : Addr) (cl : List (Str × Addr)) (fp : List Addr), PE (X.blk s H scope (compEnvC scope cl C X.env) fp) vx tv) (hs : ∀ x, foldedSetIterable iter X.env x = pure x := by intro _; rfl) :
    PS X (.Assign [.Name y py] (.DictComp kx vx [⟨tg, iter, ifs, 0⟩] scope pos) spos) (tAsg (tDc wi g tt tk tv (own.map (·.2))) (gName i)) := by
  refine ⟨fun pins s σ H D I h0 => ?_⟩
  rw [exec_Assign_Name_used _ _ _ _ hsw]
  refine wpAny_bind (wpAny_standAt (wpAny_bind ?_))
  show wpAny _ X.A (do let _ ← comprehension (.DictComp kx vx [⟨tg, iter, ifs, 0⟩] scope pos) scope X.env (firstIterPos [⟨tg, iter, ifs, 0⟩] pos) (newDict #[]) false (eval iter X.env) (some (assign (.Name y py) X.env))) _ _ s
  have h1 : tDc wi g tt tk tv (own.map (·.2)) σ H (fun x H1 => gName i x σ H1 D.nx) := h0
  refine wpAny_bind (thn (dc_core (Qf := fun _ s' => SP X pins D .next s') hc hN I hi ok hg ht hk he hs h1 fun L C s' m H' I' q hn f => ?_) fun _ s' hq => wpAny_pure (wpAny_pure hq))
  show wpAny _ _ (assign (.Name y py) X.env (.ref L)) _ _ _
  refine wpAny_assign_Name (store_ok2 (v := V.ref L) I' hN hy (.inl hyl) rfl (fun s2 I2 ⟨a, sb, ha⟩ => ?_) (.inr hyl))
  obtain ⟨f0, f1, f2, f3, f4, f5⟩ := f
  have haC : C ≠ a := by
    rcases ha with z | z; (rw [z]; exact f1); exact fun e => f4 y a z e.symm
  exact ⟨m, hn.sameBut sb haC, fun h3 sb3 => ⟨_, H', I2.turned (t' := s2.toks) (fun b o hb e => (sb3.2 b hb).trans e) f0 f1 f3 f4 f5, q⟩⟩
theorem swD_true {kx vx : Expr} {gs : List Comprehension} {scope : Scope} {pos py : Pos} {y : Str} {l : Nat} {env : Env} (hk : env.scope.kind = .function) (hy : env.scope.names.lookup y = some .local) (hl : (py.line == pos.line) = true)
    (ha : (scope.names.any fun (n, k) => n == y && (k == .local || k == .cell)) = false) : swapsWith (.DictComp kx vx gs scope pos) (some (.Name y py)) l env = pure true := by
  have ky : env.kindOf y = some .local := hy
  have hb : env.blockKind = .function := by unfold Env.blockKind; rw [hk]; rfl
  unfold swapsWith; simp only [hb, ky, ha, Expr.pos, hl]; rfl
end
/-- a dict comprehension over any walk -/
theorem dc_it {J : It} {n : Nat} {G : Hp → Prop} {Y : Nat → Hp → V → Hp → Prop} (wk : Walk J n G Y) {g : TG} {tt : TT} {tk tv : TE} {vs : List Nat} {σ : L2.St} {H1 : Hp} {D : Addr} {Qd : Hp → Prop} (Pv : Nat → Hp → Prop) (h0 : Pv 0 (upd H1 D (.dK []))) (hG : ∀ i H, i ≤ n → Pv i H → G H)
    (hs : ∀ i x H H', i < n → Pv i H → Y i H x H' → g x (wipe σ vs) H' fun σ2 H2 => wipe σ2 vs = wipe σ vs ∧ tt σ2 H2 fun b H3 =>
      if b = true then tk σ2 H3 fun y H4 => tv σ2 H4 fun z H5 => ∃ kvs k, y = kV k ∧ H5 D = some (.dK kvs) ∧ kvs.length < sizeLine ∧ Pv (i + 1) (upd H5 D (.dK (putK kvs k z))) else Pv (i + 1) H3) (hd : ∀ H, Pv n H → Qd H) :
    ∃ W : Nat → Nat → Hp → Prop, (∃ m, W 0 m (upd H1 D (.dK []))) ∧ ∀ i m H, W i m H → (J.stop i H ∧ Qd H) ∨ (J.go i H ∧ ∃ Nx : Hp → Prop, (∀ H', Nx H' → ∃ m', m' < m ∧ W (i + 1) m' H') ∧ ∀ x H', J.yld i H x H' → g x (wipe σ vs) H' fun σ2 H2 => wipe σ2 vs = wipe σ vs ∧ tt σ2 H2 fun b H3 =>
        if b = true then tk σ2 H3 fun y H4 => tv σ2 H4 fun z H5 => ∃ kvs k, y = kV k ∧ H5 D = some (.dK kvs) ∧ kvs.length < sizeLine ∧ Nx (upd H5 D (.dK (putK kvs k z))) else Nx H3) := by
  refine ⟨fun i m H => m = n - i ∧ i ≤ n ∧ Pv i H, ⟨n, by simp, Nat.zero_le _, h0⟩, ?_⟩
  rintro i m H ⟨rfl, hi, p⟩
  have q := hG i H hi p
  by_cases hlt : i < n
  · exact .inr ⟨wk.goes i H hlt q, Pv (i + 1), fun H' p' => ⟨n - (i + 1), by omega, rfl, hlt, p'⟩, fun x H' y => hs i x H H' hlt p (wk.yields i H x H' hlt q y)⟩
  · obtain rfl : i = n := by omega
    exact .inl ⟨wk.stops H q, hd H p⟩
theorem walk_zipT {K : PySem.W.Frag} {a b : Addr} {xs ys : List V} {n : Nat} (h1 : xs.length = n) (h2 : ys.length = n) : Walk (RZ.ItzT K a b) n (fun H => SqT K H a xs ∧ SqT K H b ys) (YPair (fun i => xs[i]?) fun i => ys[i]?) :=
  ⟨fun i H hi ⟨p, q⟩ => ⟨xs, ys, xs[i], ys[i], p, q, List.getElem?_eq_getElem (by omega), List.getElem?_eq_getElem (by omega)⟩, fun H ⟨p, q⟩ => ⟨xs, ys, p, q, .inl (by omega)⟩,
    fun i H x H' hi ⟨p, q⟩ ⟨T, u, v, e1, e2, e3, e4, e5⟩ => ⟨T, u, v, e1, e2, e3, e4 xs p, e5 ys q⟩⟩
end Wr

set_option Elab.async false
set_option linter.all false
set_option maxRecDepth 100000
set_option maxHeartbeats 4000000
namespace Wr
open PySem PySem.Spec PyProof.Rows L2 Evl
abbrev s_gb : Stmt := inClass (topS 17) 2
abbrev NGb : List Str := ["self", "part", "numbers", "deep", "names", "sayings", "known", "worth", "name", "number"]
theorem sc_gb : FnScope NGb ["self", "part", "numbers", "deep"] (defScope s_gb) := ⟨rfl, rfl, rfl, by decide +kernel, rfl, by decide +kernel, by decide +kernel⟩
def rho0 (x0 : Int) : Env' := fun y => if y = "x" then some x0 else none
theorem rho0_ok {x0 : Int} (h : Wth x0) : (rho0 x0).ok := fun y w e => by
  unfold rho0 at e
  split at e
  · cases e
    exact h
  · cases e
/-- with the name x or with none -/
def rhoN : Option Int → Env'
  | some x => rho0 x
  | none => fun _ => none
def nmD : Option Int → List PyData
  | some _ => [.str "x"]
  | none => []
def nuD : Option Int → List PyData
  | some x => [.int x]
  | none => []
def nmV : Option Int → List V
  | some _ => [.str "x"]
  | none => []
def nuV : Option Int → List V
  | some x => [.int x]
  | none => []
def kvN : Option Int → List (Key × V)
  | some x => [(Sum.inr "x", .int x)]
  | none => []
def WthN (nx : Option Int) : Prop := ∀ x, nx = some x → Wth x
theorem rhoN_ok {nx : Option Int} (h : WthN nx) : (rhoN nx).ok := by
  cases nx with
  | none => exact fun y w e => by cases e
  | some x => exact rho0_ok (h x rfl)
theorem nm_vals {K : PySem.W.Frag} {H : Hp} {nx : Option Int} {vs : List V} (h : DdAll K H vs (nmD nx)) : vs = nmV nx := by
  cases nx with
  | none => cases h; rfl
  | some x =>
    cases h with
    | cons p q =>
    cases q
    cases p
    rfl
theorem nu_vals {K : PySem.W.Frag} {H : Hp} {nx : Option Int} {vs : List V} (h : DdAll K H vs (nuD nx)) : vs = nuV nx := by
  cases nx with
  | none => cases h; rfl
  | some x =>
    cases h with
    | cons p q =>
    cases q
    cases p
    rfl
theorem nm_len (nx : Option Int) : (nmV nx).length = (nuV nx).length := by cases nx <;> rfl
theorem kv_val (nx : Option Int) (y : Str) : valV (kvN nx) (Sum.inr y) = (rhoN nx y).map V.int := by
  cases nx with
  | none => rfl
  | some x0 =>
    show valV [((Sum.inr "x" : Key), V.int x0)] (Sum.inr y) = (rho0 x0 y).map V.int
    unfold rho0
    by_cases e : y = "x"
    · rw [if_pos e, e]
      rfl
    · rw [if_neg e, valV_neg (fun h => e (by injection h with h; exact h.symm))]
      rfl
def ExP (p sp : Addr) (H H' : Hp) : Prop := ∀ c o, c ≠ p → c ≠ sp → H c = some o → H' c = some o
/-- a telling of one tuple a with the name x -/
structure T1 (K : PySem.W.Frag) (CT : Addr) (b : List Addr) (p dxp tup sp : Addr) (l : Int) (nx : Option Int) (xs : List Sx) (H : Hp) : Prop where
  kn : Kn b H
  pb : p ∈ b
  sb : sp ∈ b
  ins : H p = some (.ins CT dxp (tf tup sp l))
  spk : H sp = some (.lst [])
  tup : ∃ t, H tup = some (.dK [(Sum.inr "a", .ref t)]) ∧ Dq K b H (.ref t) (.tuple [.tuple (nmD nx), .tuple (xs.map Sx.d)])
  ok : ∀ x ∈ xs, x.ok 1
  six : xs.length ≤ 6
  cl : ((cntL xs : Nat) : Int) ≤ l
  c90 : cntL xs ≤ 90
def Said (CT p dxp tup sp : Addr) (s : List Int) (H : Hp) : Prop := (∃ l, H p = some (.ins CT dxp (tf tup sp l))) ∧ H sp = some (.lst (s.map V.int))
def spGb (K : PySem.W.Frag) (CF CT : Addr) : Sp := fun vs H Q E => ∃ b p dxp tup sp l xs nx u dp, vs = [.ref p, .str "a", u, dp] ∧ T1 K CT b p dxp tup sp l nx xs H ∧ Dq K b H u (.tuple (nuD nx)) ∧ WthN nx ∧
  (∀ s r ρ', seqG sxO (rhoN nx) xs = (s, .inr r, ρ') → ∀ H', ExP p sp H H' → Said CT p dxp tup sp s H' → Q (.int (r.getD 0)) H') ∧
  ∀ s f ρ', seqG sxO (rhoN nx) xs = (s, .inl f, ρ') → ∀ dx Hf, H dx = none → ExP p sp H Hf → Said CT p dxp tup sp s Hf → Hf dx = some (.xd [("number", .int f)]) → E (.ref CF) (some dx) Hf
section
variable {P : Program} {w : World} {K : PySem.W.Frag} {mg : Str → Option Value} {base : Heap} {CF fI CT f g g2 g3 g4 : Addr} {fdI fd gd gd2 gd3 gd4 : FuncData}
theorem ok_gb (k : Nat) (C : TlC K CT) (M : TmC K CT "given_back" "Telling.given_back" s_gb ["self", "part", "numbers", "deep"] f fd)
    (M1 : TmC K CT "go_through" "Telling.go_through" s_gt ["self", "sayings", "known", "deep"] g gd) (G1 : FnOk P w K mg base (L2.CX P w) k g gd ["self", "sayings", "known", "deep"] (spGT K CF CT 2)) (zz : mg "zip" = none) :
    FnOk P w K mg base (L2.CX P w) (k + 1) f fd ["self", "part", "numbers", "deep"] (spGb K CF CT) := by
  refine M.F.okX sc_gb (fun vs H Q E ⟨b, p, dxp, tup, sp, l, xs, nx, u, dp, e, _⟩ => by rw [e]; rfl) (fun cdv A outer s H vs Q E hr h => ?_)
  obtain ⟨b, p, dxp, tup, sp, l, xs, nx, u, dp, rfl, T, hu, hx0, q1, q2⟩ := h
  refine ⟨_, pss_cons (ps_asg (pe_dget (hu1 hr) (pe_fld (pv 0) rfl) (pv 1) (fun _ _ => rfl)) (pg_tup rfl (pgs_cons (pg_name (i := 4) sc_gb.nd rfl (Or.inl rfl)) (pgs_cons (pg_name (i := 5) sc_gb.nd rfl (Or.inl rfl)) pgs_nil))))
    (pss_cons (ps_setDc (i := 6) (own := [("name", 8), ("number", 9)]) (g := gTup K 2 (gCons (gName 8) (gCons (gName 9) gNil))) (tt := tYes) (tk := tVar 8) (tv := tVar 9) rfl sc_gb.nd rfl rfl (swD_true rfl rfl rfl (by decide +kernel)) (RZ.pi_zipA rfl zz (pa_cons (pv 4) (pa_cons (pv 2) pa_nil))) (blkOk_by (N := NGb) (sc := defScope s_gb) (by decide +kernel))
      (fun _ _ _ _ _ => pg_tup rfl (pgs_cons (pg_name (i := 8) sc_gb.nd rfl (Or.inl rfl)) (pgs_cons (pg_name (i := 9) sc_gb.nd rfl (Or.inl rfl)) pgs_nil))) (fun _ _ _ _ _ => pts_nil) (fun _ _ _ _ _ => pv 8) (fun _ _ _ _ _ => pv 9))
    (pss_cons (ps_set (i := 7) sc_gb.nd rfl (Or.inl rfl) (pe_methX (E := WE fun cls d _ H => E cls d H) (pv 0) C.c M1.at_ G1 hr M1.b (fun σ => passAt (takes_of rfl rfl rfl rfl) σ) (pa_cons (pv 5) (pa_cons (pv 6) (pa_cons (pv 3) pa_nil)))))
    (pss_one (ps_ret (pe_ifExp (pt_cmp (pc_isN (pv 7))) pe_int (pv 7)))))), ?_⟩
  have hsl : sizeLine = 16777216 := sizeLine_eq
  obtain ⟨t, ht1, ht2⟩ := T.tup
  have hg : DGet H tup (.str "a") (some (.ref t)) := DGet.k (k := Sum.inr "a") ht1
  cases ht2 with
  | @tup _ ys _ g1 gn g2 =>
  cases g2 with
  | @cons vn _ _ _ m1 g2 =>
  cases g2 with
  | @cons vs _ _ _ m2 g2 =>
  cases g2
  refine ⟨.ref p, rfl, p, CT, dxp, _, .ref tup, rfl, T.ins, C.c, C.nT, rfl, .str "a", rfl, tup, .ref t, rfl, hg, t, [vn, vs], rfl, ex_t hid_le g1, rfl, vn, [vs], rfl, vs, [], rfl, rfl, ?_⟩
  have m1' := m1
  cases m1' with
  | @tup an xn _ n1 nn n2 =>
  have en1 := nm_vals n2
  subst en1
  have hu' := hu
  cases hu' with
  | @tup au xu _ e1 en e2 =>
  have en2 := nu_vals e2
  subst en2
  refine ⟨.ref an, rfl, .ref au, rfl, an, au, nmV nx, nuV nx, rfl, .inr ⟨ex_t hid_le n1, ex_t hid_le e1, fun kd hkd => ?_⟩⟩
  have hk0 : ∀ c o, c ≠ kd → H c = some o → upd H kd (.dK []) c = some o := fun c o hc z => by rw [upd_ne hc]; exact z
  refine dc_it (walk_zipT (n := (nuV nx).length) (nm_len nx) rfl) (Pv := fun i H' => Ex H H' ∧ H' kd = some (.dK (if i = 0 then [] else kvN nx))) ⟨Ex.new hkd, upd_same⟩ (fun i H' _ ⟨x', _⟩ => ⟨ex_t x' (ex_t hid_le n1), ex_t x' (ex_t hid_le e1)⟩) ?_ ?_
  · rintro i v H1 H2 hi ⟨x1, hk1⟩ ⟨Tt, y1, y2, rfl, hT, rfl, z1, z2⟩
    cases nx with
    | none => exact absurd hi (Nat.not_lt_zero i)
    | some x0 =>
    obtain rfl : i = 0 := by
      have hi' : i < 1 := hi
      omega
    cases z1
    cases z2
    refine ⟨Tt, [.str "x", .int x0], rfl, .inl (.inl upd_same), rfl, _, _, rfl, _, _, rfl, rfl, rfl, ?_⟩
    refine et_yes (H := upd H1 Tt (.tup [.str "x", .int x0])) _ (Ex.refl _) _ fun H3 x3 => ?_
    rw [if_pos rfl]
    have x13 := (x1.trans (Ex.new hT)).trans x3
    refine ⟨.str "x", rfl, .int x0, rfl, [], Sum.inr "x", rfl, x3 _ _ (Ex.new hT _ _ hk1), by rw [hsl]; decide, fun c o z => ?_, upd_same⟩
    rw [upd_ne (fun e => by rw [e, hkd] at z; cases z)]
    exact x13 _ _ z
  · rintro H1 ⟨x1, hk1⟩
    have hk1' : H1 kd = some (.dK (kvN nx)) := by
      rw [hk1]
      cases nx <;> rfl
    refine gas ?_
    have nkp : kd ≠ p := fun e => by rw [e, T.ins] at hkd; cases hkd
    have nks : kd ≠ sp := fun e => by rw [e, T.spk] at hkd; cases hkd
    have tl : Tl CT p dxp tup sp kd l 5 [] (rhoN nx) H1 := ⟨x1 _ _ T.ins, x1 _ _ T.spk, Nat.zero_le _, _, hk1', by cases nx with
      | none => exact Nat.zero_le _
      | some x0 => show 1 ≤ 5; decide, kv_val nx⟩
    have knb : Kn (kd :: b) H1 := fun c hc => by
      rcases List.mem_cons.mp hc with rfl | hc
      · rw [hk1']; intro z; cases z
      · exact T.kn.up x1 c hc
    have hvs : Dq K (kd :: b) H1 vs (.tuple (xs.map Sx.d)) := dp_ex (hid_ex x1) _ _ (Dq.hide m2 hkd)
    have cl := T.cl
    have c90 := T.c90
    refine ⟨.ref p, rfl, p, dxp, _, rfl, tl.ins, rfl, vs, rfl, .ref kd, rfl, dp, rfl, kd :: b, p, dxp, tup, sp, kd, l, 5, [], rhoN nx, xs, vs, dp, rfl, ⟨knb, List.mem_cons_of_mem _ T.pb, List.mem_cons_of_mem _ T.sb, List.mem_cons_self, hvs, tl, rhoN_ok hx0, cl, by omega⟩, T.ok, T.six, ?_, ?_⟩
    · intro s' r ρ' hs l' H' hl' x' tl'
      refine gas ?_
      refine ⟨optV r, rfl, _, rfl, ?_⟩
      have xp : ExP p sp H H' := fun c o c1 c2 z => x' c o c1 c2 (fun e => by rw [e, hkd] at z; cases z) (x1 _ _ z)
      have sd : Said CT p dxp tup sp s' H' := ⟨⟨l', tl'.ins⟩, by have := tl'.spk; rw [List.nil_append] at this; exact this⟩
      have fin := q1 s' r ρ' hs H' xp sd
      cases r with
      | none =>
        show ite (true = true) _ _
        rw [if_pos rfl]
        exact fin
      | some wv =>
        show ite (false = true) _ _
        rw [if_neg Bool.false_ne_true]
        exact ⟨.int wv, rfl, fin⟩
    · intro s' fn ρ' hs dx l' Hf hl' hdx x' hfx tl'
      refine q2 s' fn ρ' hs dx Hf ?_ (fun c o c1 c2 z => x' c o c1 c2 (fun e => by rw [e, hkd] at z; cases z) (x1 _ _ z)) ⟨⟨l', tl'.ins⟩, by have := tl'.spk; rw [List.nil_append] at this; exact this⟩ hfx
      cases z : H dx with
      | none => rfl
      | some o => rw [x1 _ _ z] at hdx; cases hdx
end
end Wr

set_option Elab.async false
set_option linter.all false
set_option maxRecDepth 100000
set_option maxHeartbeats 4000000
namespace Wr
open PySem PySem.Spec PyProof.Rows L2 Evl
/-- what a first clause 'except x as n' wishes that takes all, whatever clauses stand behind it -/
def wAsT (K : PySem.W.Frag) (c : Value) (i : Nat) (ts : Addr → Value → Option Addr → TS) (D : Ends) : WX := fun cls d σ H => PySem.W.exmOne K cls c = some true ∧ ∀ a, H a = none → ts a cls d { nx := fun σ' H' => D.nx (σ'.set i none) H', rt := D.rt, bk := fun σ' H' => D.bk (σ'.set i none) H', ct := fun σ' H' => D.ct (σ'.set i none) H' } (σ.set i (some (.ref a))) H
section
variable {X : Cx} {x n : Str} {c : Value} {i : Nat} {body suite : List Stmt} {b₀ : Stmt} {np pos pos' : Pos} {tb : WX → TS} {ts : Addr → Value → Option Addr → TS} {more : List ExceptHandler}
theorem ps_try_asT (hst : X.stack = X.env :: X.outer) (hfm : X.env.frame = some X.env.locals) (hN : X.N.Nodup) (hi : X.N[i]? = some n) (hln : X.env.kindOf n = some .local) (hc : Names X x c)
    (hb : ∀ (W : WX) (pn : List (Addr × Obj)) (xe : Value → Shared → Prop), Takes (X.tr pn xe) W → PassesOwn (model X.prog X.w) X.A X.env xe → PSs (X.tr pn xe) body (tb W))
    (hsu : ∀ (a : Addr) (oe : Obj) (cls : Value) (d : Option Addr) (pn : List (Addr × Obj)), Zc cls d oe → (∃ vs, oe.data = .fields vs) → PSs (X.suite a ((a, oe) :: pn)) (b₀ :: suite) (ts a cls d)) :
    PS X (.Try body (.ExceptHandler (some (.Name x np)) (some n) (b₀ :: suite) pos' :: more) [] [] pos) (fun D σ H => tb (wAsT X.K c i ts D) D σ H) := by
  refine ⟨fun pins s σ H D I h0 => ?_⟩
  have okX := I.ok
  have hfr0 : X.A.frames = some (X.env :: X.outer) := by rw [okX.frames, hst]
  have hloc0 : Loc X.env.scope n := .inl hln
  refine wpAny_Try_except (wpAny_mono ((hb (wAsT X.K c i ts D) (X.pn ++ pins) (fun e s₁ => wpAny (model X.prog X.w) X.A (noteFrame e X.env) (fun _ s₂ => wpAny (model X.prog X.w) X.A (setFlight e none) (fun _ s₃ => wpAny (model X.prog X.w) X.A (handleBy e X.env (.ExceptHandler (some (.Name x np)) (some n) (b₀ :: suite) pos' :: more)) (SP X pins D) X.xe s₃) X.xe s₂) X.xe s₁) (fun u s' xx => ?_) PassesOwn.looking).run [] s σ H D (I.toTry _) h0) (fun f s1 hsp => ?_) (fun e s1 he => he))
  · obtain ⟨a, B, sI, pins', σ', H', cls, d, rfl, J', nb, up, sky, na, os, ag, hb1, hyes⟩ := xx
    have J : Inv X pins σ' H' sI := J'.ofTry okX
    have sky' : Sky B (X.env :: X.outer) a (Zc cls d) X.env.locals s'.heap := hst ▸ sky
    show wpAny (model X.prog X.w) X.A (noteFrame (.ref a) X.env) _ _ _
    refine Sky.land Zc.steady hfr0 hfm sky' fun h3 fl3 up3 => ?_
    have J3 : Inv X pins σ' H' { s' with heap := h3 } := J.landed nb fl3.1 (up.trans up3) os ag
    obtain ⟨oe3, vs3, he3, hz3, hd3⟩ := fl3.there
    have nfr : a ∉ frs (X.env :: X.outer) := fun hm => by
      obtain ⟨_, o', e', hnf⟩ := fl3.2.2.1.mem hm; rw [he3] at e'; cases e'; exact hnf _ hd3
    have nL : a ≠ X.env.locals := fun z => nfr (List.mem_filterMap.mpr ⟨X.env, List.mem_cons_self, z ▸ hfm⟩)
    have nF : a ∉ X.fs := fun hm => let ⟨e, he, q⟩ := List.mem_filterMap.mp hm; nfr (List.mem_filterMap.mpr ⟨e, List.mem_cons_of_mem _ he, q⟩)
    have S3 := J3.suite he3 hd3 na nL nF
    refine wpAny_handleBy_cons (codeAny_handlers_test ?_) (by intro q; cases q)
    have LT0 : PySem.W.Looks (model X.prog X.w) h3 (typeOf (.ref a)) cls := fun A Q E s k q => wpAny_typeOf_ref (k _ _ he3) (by rw [hz3.1]; exact q)
    have LM := PySem.W.exm_one (M := model X.prog X.w) (J3.kIn) LT0 hb1
    have test0 : ∀ {Q : Value → Shared → Prop} {E : Value → Shared → Prop}, Q c { s' with heap := h3 } → wpAny (model X.prog X.w) (X.A.mark (some (.ref a))) (eval (.Name x np) X.env) Q E { s' with heap := h3 } := fun {Q E} q => by
      rcases hc with ⟨hg, hdbg, hm | ⟨hm, hv, hnn⟩⟩; exact ld_glob (X := X.suite a ((a, oe3) :: (X.pn ++ pins))) S3 hg hm q hdbg; exact ld_blt (X := X.suite a ((a, oe3) :: (X.pn ++ pins))) S3 hg hm hv q hnn hdbg
    refine test0 (LM.here (codeAny_handlers_suite_as (HandSPX.lands_againZ fl3 fun h4 fl4 up4 => ?_)))
    have J4 : Inv X pins σ' H' { s' with heap := h4 } := J.landed nb fl4.1 ((up.trans up3).trans up4) os ag
    obtain ⟨oe4, vs4, he4, hz4, hd4⟩ := fl4.there
    have S4 := J4.suite he4 hd4 na nL nF
    refine store_ok (X := X.suite a ((a, oe4) :: (X.pn ++ pins))) (v := .ref a) S4 hN hi hloc0 rfl (fun s5 S5 => wpAny_mono ((hsu a oe4 cls d (X.pn ++ pins) hz4 ⟨_, hd4⟩).run [] s5 _ H' _ S5 (hyes a na)) (fun f s6 hsp => ?_) (fun _ _ z => False.elim z)) (.inr hln)
    have end0 : ∀ {σ6 : L2.St} {H6 : Hp} {Q : Shared → Prop}, Inv (X.suite a ((a, oe4) :: (X.pn ++ pins))) [] σ6 H6 s6 → (∀ s7, Inv X pins (σ6.set i none) H6 s7 → Q s7) → wpAny (model X.prog X.w) X.A (do bindName X.env n .none; unbindBehindTheSuite X.env n pos') (fun _ s7 => Q s7) X.xe s6 := fun {σ6 H6 Q} S6 hq => gone_ok (S6.unsuite okX) hN hi hln hq
    cases f with
    | next => obtain ⟨σ6, H6, S6, q6⟩ := hsp; exact end0 S6 fun s7 J7 => ⟨_, _, J7, q6⟩
    | brk => obtain ⟨σ6, H6, S6, q6⟩ := hsp; exact end0 S6 fun s7 J7 => ⟨_, _, J7, q6⟩
    | cont => obtain ⟨σ6, H6, S6, q6⟩ := hsp; exact end0 S6 fun s7 J7 => ⟨_, _, J7, q6⟩
    | ret u => obtain ⟨v6, σ6, H6, S6, r6, q6⟩ := hsp; exact end0 S6 fun s7 J7 => ⟨_, _, _, J7, r6, q6⟩
  · cases f with
    | next => obtain ⟨σ', H', J', q⟩ := hsp; exact wpAny_execs_nil ⟨σ', H', J'.ofTry okX, q⟩
    | brk => obtain ⟨σ', H', J', q⟩ := hsp; exact ⟨σ', H', J'.ofTry okX, q⟩
    | cont => obtain ⟨σ', H', J', q⟩ := hsp; exact ⟨σ', H', J'.ofTry okX, q⟩
    | ret u => obtain ⟨v, σ', H', J', r, q⟩ := hsp; exact ⟨v, σ', H', J'.ofTry okX, r, q⟩
end
abbrev s_eo : Stmt := inClass (topS 17) 1
abbrev NEo : List Str := ["self", "part", "numbers", "fault"]
theorem sc_eo : FnScope NEo ["self", "part", "numbers"] (defScope s_eo) := ⟨rfl, rfl, rfl, by decide +kernel, rfl, by decide +kernel, by decide +kernel⟩
/-- how it ends, as a datum -/
def endD : Out → PyData
  | .inl f => .tuple [.str "fault", .int f]
  | .inr r => .tuple [.str "back", .int (r.getD 0)]
def spEo (K : PySem.W.Frag) (CT : Addr) : Sp := fun vs H Q _ => ∃ b p dxp tup sp l xs nx u, vs = [.ref p, .str "a", u] ∧ T1 K CT b p dxp tup sp l nx xs H ∧ Dq K b H u (.tuple (nuD nx)) ∧ WthN nx ∧
  ∀ v H', ExP p sp H H' → Said CT p dxp tup sp (seqG sxO (rhoN nx) xs).1 H' → Kn b H' → Dq K b H' v (endD (seqG sxO (rhoN nx) xs).2.1) → Q v H'
section
variable {P : Program} {w : World} {K : PySem.W.Frag} {mg : Str → Option Value} {base : Heap} {CF fI CT f g g2 g3 g4 : Addr} {fdI fd gd gd2 gd3 gd4 : FuncData}
theorem said_kn {b : List Addr} {p dxp tup sp : Addr} {s : List Int} {H H' : Hp} (k : Kn b H) (x : ExP p sp H H') (h : Said CT p dxp tup sp s H') : Kn b H' := fun c hc z => by
  obtain ⟨⟨l, h1⟩, h2⟩ := h
  by_cases e1 : c = p
  · rw [e1, h1] at z; cases z
  by_cases e2 : c = sp
  · rw [e2, h2] at z; cases z
  cases q : H c with
  | none => exact k c hc q
  | some o => rw [x c o e1 e2 q] at z; cases z
theorem said_up {p dxp tup sp : Addr} {s : List Int} {H H' : Hp} (h : Said CT p dxp tup sp s H) (x : Ex H H') : Said CT p dxp tup sp s H' := by
  obtain ⟨⟨l, h1⟩, h2⟩ := h
  exact ⟨⟨l, x _ _ h1⟩, x _ _ h2⟩
theorem ok_eo (k : Nat) (T : FtC K mg CF fI fdI) (te : PySem.W.exmOne K (.ref CF) (.ref CF) = some true) (XT : XfC K CF) (C : TlC K CT) (M : TmC K CT "end_of" "Telling.end_of" s_eo ["self", "part", "numbers"] f fd)
    (M1 : TmC K CT "given_back" "Telling.given_back" s_gb ["self", "part", "numbers", "deep"] g gd) (G1 : FnOk P w K mg base (L2.CX P w) k g gd ["self", "part", "numbers", "deep"] (spGb K CF CT)) :
    FnOk P w K mg base CX0 (k + 1) f fd ["self", "part", "numbers"] (spEo K CT) := by
  refine M.F.ok sc_eo (fun vs H Q E ⟨b, p, dxp, tup, sp, l, xs, nx, u, e, _⟩ => by rw [e]; rfl) (fun cdv A outer s H vs Q E hr h => ?_)
  obtain ⟨b, p, dxp, tup, sp, l, xs, nx, u, rfl, T1', hu, hx0, q⟩ := h
  refine ⟨_, pss_one (ps_try_asT (i := 3) rfl rfl sc_eo.nd rfl rfl ⟨rfl, by decide, .inl T.m⟩
      (fun W pn xe tkk _ => pss_one (ps_ret (pe_tupF (pa_cons pe_str (pa_cons (pe_methX (E := WE W) (pv 0) C.c M1.at_ G1 hr M1.b (fun σ => passAt tkk σ) (pa_cons (pv 1) (pa_cons (pv 2) (pa_cons pe_int pa_nil)))) pa_nil)))))
      (fun a oe cls d pn hz hf => pss_one (ps_ret (pe_tupF (pa_cons pe_str (pa_cons (pe_xf XT T.n hz hf (pv 3)) pa_nil)))))), ?_⟩
  have hsl : sizeLine = 16777216 := sizeLine_eq
  refine ⟨.ref p, rfl, p, dxp, _, rfl, T1'.ins, rfl, .str "a", rfl, u, rfl, b, p, dxp, tup, sp, l, xs, nx, u, .int 1, rfl, T1', hu, hx0, ?_, ?_⟩
  · intro s' r ρ' hs H' x' sd
    refine ⟨by rw [hsl]; show 2 ≤ 16777216; decide, fun pt o hpt ho => ?_⟩
    have kn' := said_kn T1'.kn x' sd
    have xx := Ex.new (o := HO.frz o (.tup [.str "back", .int (r.getD 0)])) hpt
    refine q _ _ (fun c o c1 c2 z => xx _ _ (x' c o c1 c2 z)) ?_ (kn'.up xx) ?_
    · rw [hs]
      exact said_up sd xx
    · rw [hs]
      exact dq_newT kn' hpt ho (.cons (.str _) (.cons (.int _) .nil))
  · intro s' fn ρ' hs dx Hf hdx x' sd hfx
    refine ⟨te, fun ea hea => ?_⟩
    refine ⟨.ref ea, rfl, rfl, rfl, dx, _, .int fn, rfl, hfx, rfl, by rw [hsl]; show 2 ≤ 16777216; decide, fun pt o hpt ho => ?_⟩
    have kn' := said_kn T1'.kn x' sd
    have xx := Ex.new (o := HO.frz o (.tup [.str "fault", .int fn])) hpt
    refine q _ _ (fun c o c1 c2 z => xx _ _ (x' c o c1 c2 z)) ?_ (kn'.up xx) ?_
    · rw [hs]
      exact said_up sd xx
    · rw [hs]
      exact dq_newT kn' hpt ho (.cons (.str _) (.cons (.int _) .nil))
end
end Wr

set_option Elab.async false
set_option linter.all false
set_option maxRecDepth 100000
set_option maxHeartbeats 4000000
namespace Wr
open PySem PySem.Spec PyProof.Rows L2 Evl
abbrev s_in : Stmt := inClass (topS 17) 0
abbrev NIn : List Str := ["self", "tree", "most", "name", "names", "sayings"]
theorem sc_in : FnScope NIn ["self", "tree", "most"] (defScope s_in) := ⟨rfl, rfl, rfl, by decide +kernel, rfl, by decide +kernel, by decide +kernel⟩
abbrev s_me : Stmt := topS 16
abbrev NMe : List Str := ["tree", "part", "numbers", "most", "telling", "end"]
theorem sc_me : FnScope NMe ["tree", "part", "numbers", "most"] (defScope s_me) := ⟨rfl, rfl, rfl, by decide +kernel, rfl, by decide +kernel, by decide +kernel⟩
def tree1 (nx : Option Int) (xs : List Sx) : PyData := .tuple [.tuple [.str "a", .tuple (nmD nx), .tuple (xs.map Sx.d)]]
def spIn (K : PySem.W.Frag) (CT : Addr) : Sp := fun vs H Q _ => ∃ b p dxp tv l nx xs, vs = [.ref p, tv, .int l] ∧ Kn b H ∧ p ∈ b ∧ H p = some (.ins CT dxp []) ∧ Dq K b H tv (tree1 nx xs) ∧
  ∀ H' tup sp t, (∀ c o, c ≠ p → H c = some o → H' c = some o) → H sp = none → sp ≠ p → H' p = some (.ins CT dxp (tf tup sp l)) → H' tup = some (.dK [(Sum.inr "a", .ref t)]) → Dq K (sp :: b) H' (.ref t) (.tuple [.tuple (nmD nx), .tuple (xs.map Sx.d)]) → H' sp = some (.lst []) → Q .non H'
def spMe (K : PySem.W.Frag) : Sp := fun vs H Q _ => ∃ b tv nv xs nx, vs = [tv, .str "a", nv, .int 60] ∧ Kn b H ∧ Dq K b H tv (tree1 nx xs) ∧ Dq K b H nv (.tuple (nuD nx)) ∧ WthN nx ∧ (∀ x ∈ xs, x.ok 1) ∧ xs.length ≤ 6 ∧ cntL xs ≤ 60 ∧
  ∀ v H', Ex H H' → Dq K b H' v (.tuple [.tuple ((seqG sxO (rhoN nx) xs).1.map PyData.int), endD (seqG sxO (rhoN nx) xs).2.1]) → Q v H'
theorem ints_dd {K : PySem.W.Frag} {H : Hp} : ∀ s : List Int, DdAll K H (s.map V.int) (s.map PyData.int)
  | [] => .nil
  | i :: s => .cons (.int i) (ints_dd s)
theorem seq_said {α : Type} {one : Env' → α → Res} {m : Nat} (h1 : ∀ ρ x, (one ρ x).1.length ≤ m) : ∀ (ρ : Env') (xs : List α), (seqG one ρ xs).1.length ≤ m * xs.length
  | ρ, [] => Nat.zero_le _
  | ρ, x :: r => by
    have hx := h1 ρ x
    rcases hq : one ρ x with ⟨s, o, ρ'⟩
    rw [hq] at hx
    have hx : s.length ≤ m := hx
    have ih := seq_said h1 ρ' r
    rw [List.length_cons, Nat.mul_succ]
    rcases o with f | (_ | w)
    · rw [seq_flt hq]
      show s.length ≤ _
      omega
    · rw [seq_next hq]
      show (s ++ (seqG one ρ' r).1).length ≤ _
      rw [List.length_append]
      omega
    · rw [seq_ret hq]
      show s.length ≤ _
      omega
section
variable {P : Program} {w : World} {K : PySem.W.Frag} {mg : Str → Option Value} {base : Heap} {CF fI CT f g g2 g3 g4 : Addr} {fdI fd gd gd2 gd3 gd4 : FuncData}
theorem ok_in (C : TlC K CT) (M : Fun K "__init__" "Telling.__init__" s_in f fd) : FnOk P w K mg base CX0 1 f fd ["self", "tree", "most"] (spIn K CT) := by
  refine M.ok sc_in (fun vs H Q E ⟨b, p, dxp, tv, l, nx, xs, e, _⟩ => by rw [e]; rfl) (fun cdv A outer s H vs Q E hr h => ?_)
  obtain ⟨b, p, dxp, tv, l, nx, xs, rfl, kn, pb, hp, htv, q⟩ := h
  refine ⟨_, pss_cons (ps_fld (pv 0) (pe_dc (own := [("name", 3), ("names", 4), ("sayings", 5)]) (g := gTup K 3 (gCons (gName 3) (gCons (gName 4) (gCons (gName 5) gNil)))) (tt := tYes) (tk := tVar 3) (tv := tTupF (tCons (tVar 4) (tCons (tVar 5) tNil))) rfl sc_in.nd (pi_tup (pv 1)) (blkOk_by (N := NIn) (sc := defScope s_in) (by decide +kernel))
      (fun _ _ _ _ _ => pg_tup rfl (pgs_cons (pg_name (i := 3) sc_in.nd rfl (Or.inl rfl)) (pgs_cons (pg_name (i := 4) sc_in.nd rfl (Or.inl rfl)) (pgs_cons (pg_name (i := 5) sc_in.nd rfl (Or.inl rfl)) pgs_nil)))) (fun _ _ _ _ _ => pts_nil) (fun _ _ _ _ _ => pv 3) (fun _ _ _ _ _ => pe_tupF (pa_cons (pv 4) (pa_cons (pv 5) pa_nil)))) rfl)
    (pss_cons (ps_fld (pv 0) (pv 2) rfl)
    (pss_one (ps_fld (pv 0) (pe_lst pa_nil) rfl))), ?_⟩
  have hsl : sizeLine = 16777216 := sizeLine_eq
  have ht := htv
  cases ht with
  | @tup at_ ys _ g1 gn g2 =>
  cases g2 with
  | @cons vt _ _ _ m1 g2 =>
  cases g2
  refine ⟨.ref at_, rfl, at_, rfl, ⟨[vt], ex_t hid_le g1⟩, fun D hD => ?_⟩
  refine dc_tup (xs := [vt]) (Pv := fun i H' => Ex H H' ∧ (i = 0 → H' D = some (.dK [])) ∧ (i = 1 → ∃ t, H' D = some (.dK [(Sum.inr "a", .ref t)]) ∧ Dq K b H' (.ref t) (.tuple [.tuple (nmD nx), .tuple (xs.map Sx.d)]))) ⟨Ex.new hD, fun _ => upd_same, fun h => by cases h⟩ (fun i H' _ ⟨x', _⟩ => ex_t x' (ex_t hid_le g1)) ?_ ?_
  · rintro i v H1 hv ⟨x1, hk1, _⟩
    obtain rfl : i = 0 := by
      have := (List.getElem?_eq_some_iff.mp hv).1
      have h1 : ([vt] : List V).length = 1 := rfl
      omega
    cases hv
    have m1' := dp_ex (hid_ex x1) _ _ (Dq.hide (D := D) m1 hD)
    cases m1' with
    | @tup a3 zs _ k1 kn1 k2 =>
    cases k2 with
    | @cons v1 _ _ _ o1 k2 =>
    cases k2 with
    | @cons v2 _ _ _ o2 k2 =>
    cases k2 with
    | @cons v3 _ _ _ o3 k2 =>
    cases k2
    cases o1
    refine ⟨a3, [.str "a", v2, v3], rfl, ex_t hid_le k1, rfl, _, _, rfl, _, _, rfl, _, _, rfl, rfl, rfl, ?_⟩
    refine et_yes (H := H1) _ (Ex.refl _) _ fun H3 x3 => ?_
    rw [if_pos rfl]
    have x13 := x1.trans x3
    refine ⟨.str "a", rfl, v2, rfl, v3, rfl, by rw [hsl]; show 2 ≤ 16777216; decide, fun t o hnt ho => ?_⟩
    have x4 := Ex.new (o := HO.frz o (.tup [v2, v3])) hnt
    have hD4 := x4 _ _ (x3 _ _ (hk1 rfl))
    have htD : t ≠ D := fun e => by rw [e, x3 _ _ (hk1 rfl)] at hnt; cases hnt
    have hDb : D ∉ b := kn.new hD
    refine ⟨[], Sum.inr "a", rfl, hD4, by rw [hsl]; decide, ?_, fun h => (by cases h), fun _ => ⟨t, upd_same, ?_⟩⟩
    · exact fun c o z => by
        rw [upd_ne (fun e => by rw [e, hD] at z; cases z)]
        exact x4 _ _ (x13 _ _ z)
    · have hD0 : Dq K (D :: b) _ (.ref t) (.tuple [.tuple (nmD nx), .tuple (xs.map Sx.d)]) := dq_newT (o := o) (vs := [v2, v3]) (H := H3) (p := t) (b := D :: b) (fun c hc => by
        rcases List.mem_cons.mp hc with rfl | hc
        · rw [x3 _ _ (hk1 rfl)]; intro z; cases z
        · exact kn.up x13 c hc) hnt ho (.cons (Dq.up o2 x3) (.cons (Dq.up o3 x3) .nil))
      exact dp_ex show_ex _ _ (dp_ex put_ex _ _ hD0)
  · rintro H1 ⟨x1, _, h1⟩
    obtain ⟨t, hD1, ht1⟩ := h1 rfl
    have hp1 := x1 _ _ hp
    have nDp : D ≠ p := fun e => by rw [e, hp] at hD; cases hD
    refine ⟨.ref p, rfl, p, CT, dxp, [], rfl, hp1, C.c, C.nT, by decide, ?_⟩
    show tSeq _ _ _ _ _
    refine ⟨.int l, rfl, .ref p, rfl, p, CT, dxp, _, rfl, upd_same, C.c, C.nL, by show 1 < 1000; decide, ?_⟩
    refine ⟨Nat.zero_le _, fun sp hsp => ?_⟩
    have nsp : sp ≠ p := fun e => by rw [e, upd_same] at hsp; cases hsp
    refine ⟨.ref p, rfl, p, CT, dxp, _, rfl, by rw [upd_ne (Ne.symm nsp)]; exact upd_same, C.c, C.nS, by show 2 < 1000; decide, ?_⟩
    have hs1 : H1 sp = none := by
      rw [upd_ne nsp, upd_ne nsp] at hsp
      exact hsp
    have nsD : sp ≠ D := fun e => by rw [e, hD1] at hs1; cases hs1
    have step : ∀ c, c ≠ p → c ≠ sp → ∀ o, H1 c = some o → (upd (upd (upd (upd H1 p (.ins CT dxp (putF "tuples" (.ref D) []))) p (.ins CT dxp (putF "left" (.int l) (putF "tuples" (.ref D) [])))) sp (.lst [])) p (.ins CT dxp (putF "spoken" (.ref sp) (putF "left" (.int l) (putF "tuples" (.ref D) []))))) c = some o := fun c c1 c2 o z => by
      rw [upd_ne c1, upd_ne c2, upd_ne c1, upd_ne c1]
      exact z
    refine q _ D sp t (fun c o c1 z => step c c1 (fun e => by rw [e] at z; rw [x1 _ _ z] at hs1; cases hs1) o (x1 _ _ z)) ?_ nsp upd_same (step D nDp (Ne.symm nsD) _ hD1) ?_ (by rw [upd_ne nsp]; exact upd_same)
    · cases z : H sp with
      | none => rfl
      | some o => rw [x1 _ _ z] at hs1; cases hs1
    · refine dp_ex (fun c o z => ?_) _ _ (Dq.hide (D := sp) ht1 hs1)
      obtain ⟨z1, z2⟩ := hid_some z
      rw [hid_ne z1]
      exact step c (fun e => z1 (by rw [e]; exact List.mem_cons_of_mem _ pb)) (fun e => z1 (by rw [e]; exact List.mem_cons_self)) o z2
end
end Wr

set_option Elab.async false
set_option linter.all false
set_option maxRecDepth 100000
set_option maxHeartbeats 4000000
namespace Wr
open PySem PySem.Spec PyProof.Rows L2 Evl
theorem flO_len (ρ : Env') (f : Fl) : (flO ρ f).1.length ≤ 1 := by
  cases h : ev ρ f.v with
  | inl e =>
    rw [flO_flt h]
    exact Nat.zero_le _
  | inr w =>
    cases f with
    | say v =>
      rw [flO_say (v := v) h]
      exact Nat.le_refl _
    | bk v =>
      rw [flO_bk (v := v) h]
      exact Nat.zero_le _
    | th v =>
      rw [flO_th (v := v) h]
      exact Nat.zero_le _
section
variable {P : Program} {w : World} {K : PySem.W.Frag} {mg : Str → Option Value} {base : Heap} {CF fI CT f g g2 g3 g4 : Addr} {fdI fd gd gd2 gd3 gd4 : FuncData} {dvs : List V} {kws : List (Str × V)}
theorem ok_me (k : Nat) (hk : 2 ≤ k) (C : TlC K CT) (F : FunD K "meant" "meant" (defArgs s_me) (defBody s_me) (defScope s_me) dvs kws f fd) (mT : mg "Telling" = some (.ref CT)) (M1 : Fun K "__init__" "Telling.__init__" s_in g gd) (b1 : Binds K gd ["self", "tree", "most"] []) (mk : Mk K CT g)
    (M2 : TmC K CT "end_of" "Telling.end_of" s_eo ["self", "part", "numbers"] g2 gd2) (G2 : FnOk P w K mg base CX0 k g2 gd2 ["self", "part", "numbers"] (spEo K CT)) (B : Blt mg) :
    FnOk P w K mg base CX0 (k + 1) f fd ["tree", "part", "numbers", "most"] (spMe K) := by
  refine F.ok sc_me (fun vs H Q E ⟨b, tv, nv, xs, nx, e, _⟩ => by rw [e]; rfl) (fun cdv A outer s H vs Q E hr h => ?_)
  obtain ⟨b, tv, nv, xs, nx, rfl, kn, htv, hnv, hx0, hok, h6, h60, q⟩ := h
  have G1 := ok_in (P := P) (w := w) (mg := mg) (base := base) C M1
  refine ⟨_, pss_cons (ps_set (i := 4) sc_me.nd rfl (Or.inl rfl) (pe_make mk G1 (hr.mono hk) rfl mT b1 .nil pass0 (pa_cons (pv 0) (pa_cons (pv 3) pa_nil))))
    (pss_cons (ps_set (i := 5) sc_me.nd rfl (Or.inl rfl) (pe_meth (pv 4) C.c M2.at_ G2 hr M2.b .nil pass0 (pa_cons (pv 1) (pa_cons (pv 2) pa_nil))))
    (pss_one (ps_ret (pe_tupF (pa_cons (pe_callTy call_tupF rfl B.tuple bt_tuple (pa_cons (pe_fld (pv 4) rfl) pa_nil)) (pa_cons (pv 5) pa_nil)))))), ?_⟩
  have hsl : sizeLine = 16777216 := sizeLine_eq
  refine ⟨tv, rfl, .int 60, rfl, fun x dx hx hdx hne => ?_⟩
  have hxb : x ∉ b := kn.new hx
  have x0' : ∀ c o, H c = some o → upd (upd H dx (.own x)) x (.ins CT dx []) c = some o := fun c o z => by
    rw [upd_ne (fun e => by rw [e, hx] at z; cases z), upd_ne (fun e => by rw [e, hdx] at z; cases z)]
    exact z
  have hx0' : upd (upd H dx (.own x)) x (.ins CT dx []) x = some (.ins CT dx []) := upd_same
  generalize upd (upd H dx (.own x)) x (.ins CT dx []) = H1 at x0' hx0'
  have kn1 : Kn (x :: b) H1 := fun c hc => by
    rcases List.mem_cons.mp hc with rfl | hc
    · rw [hx0']; intro z; cases z
    · exact Kn.up kn x0' c hc
  have htv1 : Dq K (x :: b) H1 tv (tree1 nx xs) := dp_ex (hid_ex x0') _ _ (Dq.hide htv hx)
  refine ⟨x :: b, x, dx, tv, 60, nx, xs, rfl, kn1, List.mem_cons_self, hx0', htv1, fun H2 tup sp t e1 e2 e3 e4 e5 e6 e7 => ⟨rfl, gas ?_⟩⟩
  have hspH : H sp = none := by
    cases z : H sp with
    | none => rfl
    | some o => rw [x0' _ _ z] at e2; cases e2
  have x2 : Ex H H2 := fun c o z => e1 c o (fun e => by rw [e, hx] at z; cases z) (x0' _ _ z)
  have hspb : sp ∉ b := kn.new hspH
  have kn2 : Kn (sp :: x :: b) H2 := fun c hc => by
    rcases List.mem_cons.mp hc with rfl | hc
    · rw [e7]; intro z; cases z
    · rcases List.mem_cons.mp hc with rfl | hc
      · rw [e4]; intro z; cases z
      · exact kn.up x2 c hc
  have hnv2 : Dq K (sp :: x :: b) H2 nv (.tuple (nuD nx)) := dp_ex (hid_ex x2) _ _ (Dq.hide (Dq.hide hnv hx) hspH)
  have T : T1 K CT (sp :: x :: b) x dx tup sp 60 nx xs H2 := ⟨kn2, List.mem_cons_of_mem _ List.mem_cons_self, List.mem_cons_self, e4, e7, ⟨t, e5, e6⟩, hok, h6, by omega, by omega⟩
  refine ⟨.ref x, rfl, x, dx, _, rfl, e4, rfl, .str "a", rfl, nv, rfl, sp :: x :: b, x, dx, tup, sp, 60, xs, nx, nv, rfl, T, hnv2, hx0, fun ve H3 x3 sd kn3 hve => gas ?_⟩
  have xx3 : Ex H H3 := fun c o z => x3 c o (fun e => by rw [e, hx] at z; cases z) (fun e => by rw [e, hspH] at z; cases z) (x2 _ _ z)
  obtain ⟨⟨l3, i3⟩, s3⟩ := sd
  refine ⟨.ref x, rfl, x, CT, dx, _, .ref sp, rfl, i3, C.c, C.nS, rfl, sp, _, rfl, .inl (.inl s3), fun lt o hlt ho => ?_⟩
  have x4 := Ex.new (o := HO.frz o (.tup ((seqG sxO (rhoN nx) xs).1.map V.int))) hlt
  refine ⟨ve, rfl, by rw [hsl]; show 2 ≤ 16777216; decide, fun lt2 o2 hlt2 ho2 => ?_⟩
  have x5 := Ex.new (o := HO.frz o2 (.tup [.ref lt, ve])) hlt2
  have knb4 := (kn.up xx3).up x4
  refine q _ _ ((xx3.trans x4).trans x5) (dq_newT knb4 hlt2 ho2 (.cons (dq_newT (kn.up xx3) hlt ho (ints_dd _)) (.cons (Dq.up (dp_ex show_ex _ _ (dp_ex show_ex _ _ hve)) x4) .nil)))
end
end Wr

set_option Elab.async false
set_option linter.all false
set_option maxRecDepth 100000
set_option maxHeartbeats 4000000
namespace Wr
open PySem PySem.Spec PyProof.Rows L2 Evl
abbrev s_edge : Stmt := topS 21
abbrev NEd : List Str := ["_law_bag_here", "_law_way", "_law_great"]
theorem sc_edge : FnScope NEd ["_law_bag_here"] (defScope s_edge) := ⟨rfl, rfl, rfl, by decide +kernel, rfl, by decide +kernel, by decide +kernel⟩
abbrev s_val : Stmt := topS 22
abbrev NVl : List Str := ["_law_bag_here", "_law_deep", "_law_way", "_law_op"]
abbrev PVl : List Str := ["_law_bag_here", "_law_deep"]
theorem sc_val : FnScope NVl PVl (defScope s_val) := ⟨rfl, rfl, rfl, by decide +kernel, rfl, by decide +kernel, by decide +kernel⟩
def WthD (d : PyData) : Prop := ∃ i, d = .int i ∧ Wth i
def VxP (n : Nat) (d : PyData) : Prop := ∃ v : Vx, d = v.d ∧ v.ok ∧ v.dep ≤ n
section
variable {K : PySem.W.Frag} {b : List Addr} {a : Addr} {n m k : Nat} {σ : L2.St} {H H' : Hp} {ta tb te : TE} {t : TA} {tt : TT} {ts t1 t2 : TS} {P P' : PyData → Prop} {d : PyData}
theorem eg_IC {C : Int → Int → Prop} {g : Int → Int → Int} {P1 P2 : PyData → Prop} (ha : a ∈ b) (h1 : EG K b a n k ta σ H P1) (h2 : EG K b a k m tb σ H P2) (hi : ∀ d e, P1 d → P2 e → ∃ i j, d = .int i ∧ e = .int j ∧ C i j ∧ P (.int (g i j))) : EG K b a n m (tOp (rI C fun i j => .int (g i j)) ta tb) σ H P :=
  eg_op ha h1 h2 fun d e H1 x y Q p1 p2 _ _ hx hy q => by
    obtain ⟨i, j, rfl, rfl, c, p⟩ := hi d e p1 p2
    exact ⟨i, j, dq_int hx, dq_int hy, c, q _ _ H1 (Ex.refl H1) (.int _) p⟩
theorem eg_xy {E : XK} {i : Nat} (ha : a ∈ b) (hb : σ[i]? = some (some (.ref a))) : EG K b a n n (tOp rIxS (tC (.str "xxxxy")) (tCall (spTake K) [] E (tCons (tVar i) (tCons (tC (.int 5)) tNil)))) σ H (fun d => d = .str "x" ∨ d = .str "y") :=
  eg_op (k := n) (P1 := (· = .str "xxxxy")) (P2 := IntB 5) ha (eg_pure (fun _ _ _ => ed_str) rfl) (eg_take ha hb (by decide) (by decide)) fun d e H1 x y Q p1 p2 _ _ hx hy q => by
    subst p1
    obtain ⟨r, rfl, r0, r1⟩ := p2
    rw [dq_str hx, dq_int hy]
    have qx := q _ (.str "x") H1 (Ex.refl H1) (.str _) (.inl rfl)
    have qy := q _ (.str "y") H1 (Ex.refl H1) (.str _) (.inr rfl)
    rcases (show r = 0 ∨ r = 1 ∨ r = 2 ∨ r = 3 ∨ r = 4 by omega) with rfl | rfl | rfl | rfl | rfl
    · exact ⟨"xxxxy", 0, 120, rfl, rfl, by decide +kernel, by decide +kernel, qx⟩
    · exact ⟨"xxxxy", 1, 120, rfl, rfl, by decide +kernel, by decide +kernel, qx⟩
    · exact ⟨"xxxxy", 2, 120, rfl, rfl, by decide +kernel, by decide +kernel, qx⟩
    · exact ⟨"xxxxy", 3, 120, rfl, rfl, by decide +kernel, by decide +kernel, qx⟩
    · exact ⟨"xxxxy", 4, 121, rfl, rfl, by decide +kernel, by decide +kernel, qy⟩
end
/-- a value is drawn, at most n deep -/
def spVx (K : PySem.W.Frag) (n : Nat) : Sp := fun vs H Q _ => 0 < n ∧ ∃ (b : List Addr) (a : Addr), vs = [.ref a, .int (n : Nat)] ∧ a ∈ b ∧ Kn b H ∧ Bag a 0 H ∧ ∀ v d H', ExB a H H' → Bag a 0 H' → Dq K b H' v d → VxP n d → Q v H'
section
variable {K : PySem.W.Frag} {b : List Addr} {a : Addr} {n m k : Nat} {σ : L2.St} {H H' : Hp} {ta tb te : TE}
theorem eg_vx {E : XK} {i l : Nat} (hl : 0 < l) (hb : σ[i]? = some (some (.ref a))) (ha : a ∈ b) (he : ∀ H1, ED K b te σ H1 (.int (l : Nat))) : EG K b a n m (tCall (spVx K l) [] E (tCons (tVar i) (tCons te tNil))) σ H (VxP l) := fun H1 x1 kn bg Q q =>
  ⟨.ref a, hb, he H1 H1 (Ex.refl H1) _ fun v H2 x2 hv => by
    have e := dq_int hv
    subst e
    exact ⟨hl, b, a, rfl, ha, kn.up x2, bg.ex x2, fun v d H3 x3 b3 hv p => q v d H3 ((exb x2).trans x3) b3 hv p⟩⟩
end
section
variable {P : Program} {w : World} {K : PySem.W.Frag} {mg : Str → Option Value} {base : Heap} {f g g2 : Addr} {fd gd gd2 : FuncData}
theorem ok_edge (D : Def K mg "_law_edge" s_edge ["_law_bag_here"] f fd) (D1 : Def K mg "_law_take" s_take ["_law_bag_here", "_law_many"] g gd) :
    FnOk P w K mg base CX0 2 f fd ["_law_bag_here"] (spG K 0 (· = []) fun _ d => WthD d) := by
  refine D.F.ok sc_edge (fun vs H Q E h => spG_len (fun ds e => by rw [e]; rfl) h) (fun cdv A outer s H vs Q E hr h => ?_)
  obtain ⟨b, a, k, ws, ds, rfl, hab, kn, bg, hd, rfl, q⟩ := h
  cases hd
  have G1 := ok_take (P := P) (w := w) (base := base) D1
  refine ⟨_, pss_cons (ps_set (i := 1) sc_edge.nd rfl (Or.inl rfl) (pe_cd D1 G1 hr (pa_cons (pv 0) (pa_cons pe_int pa_nil))))
    (pss_cons (ps_if (pt_cmpR op_lt (pv 1) pe_int (nomark _)) (pss_one (ps_ret (pe_op op_sub (pe_cd D1 G1 hr (pa_cons (pv 0) (pa_cons pe_int pa_nil))) pe_int))) pss_nil)
    (pss_cons (ps_if (pt_cmpR (op_eqD (hu64 hr)) (pv 1) pe_int (nomark _)) (pss_one (ps_ret (pe_op op_sub (pe_cd D1 G1 hr (pa_cons (pv 0) (pa_cons (pe_op op_mul pe_int (pe_op op_pow pe_int pe_int)) pa_nil))) (pe_op op_pow pe_int pe_int)))) pss_nil)
    (pss_cons (ps_set (i := 2) sc_edge.nd rfl (Or.inl rfl) (pe_ix ix_list (pe_lst (pa_cons (pe_op op_pow pe_int pe_int) (pa_cons (pe_op op_sub (pe_op op_pow pe_int pe_int) pe_int) (pa_cons (pe_op op_mul pe_int (pe_op op_pow pe_int pe_int)) (pa_cons (pe_op op_add (pe_op op_mul pe_int (pe_op op_pow pe_int pe_int)) pe_int) (pa_cons (pe_op op_pow pe_int pe_int) (pa_cons (pe_op op_add (pe_op op_pow pe_int pe_int) pe_int) pa_nil)))))))
      (pe_cd D1 G1 hr (pa_cons (pv 0) (pa_cons pe_int pa_nil))) (fun _ _ => rfl)))
    (pss_one (ps_ret (pe_op op_mul (pv 2) (pe_ix ix_list (pe_lst (pa_cons pe_int (pa_cons (pe_un un_neg pe_int) pa_nil))) (pe_cd D1 G1 hr (pa_cons (pv 0) (pa_cons pe_int pa_nil))) (fun _ _ => rfl)))))))), ?_⟩
  have pw : ∀ {σ'} {H'} (j : Int) (c : CPow 10 j), ED K b (tOp (rI CPow fun i j => .int (i ^ j.toNat)) (tC (.int 10)) (tC (.int j))) σ' H' (.int (10 ^ j.toNat)) := fun {_ _} j c => ed_I ed_int ed_int c fun _ => .int _
  have mu : ∀ {σ'} {H'} (u j : Int) (c : CPow 10 j) (c2 : CMul u (10 ^ j.toNat)), ED K b (tOp (rI CMul fun i j => .int (i * j)) (tC (.int u)) (tOp (rI CPow fun i j => .int (i ^ j.toNat)) (tC (.int 10)) (tC (.int j)))) σ' H' (.int (u * 10 ^ j.toNat)) := fun {_ _} u j c c2 => ed_mul ed_int (pw j c) c2
  refine GS.fin (n := k) (m := k) (P := WthD) (gs_set (k := k) (eg_take hab rfl (by decide) (by decide)) fun v d H' x hv ⟨r, er, r0, r1⟩ => ?_) kn bg.any fun v d H' x bg' hv p => q v d H' x bg'.any hv p
  subst er
  refine gs_if (c := decide (r < 3)) (fun H1 x1 _ => et_t (ed_lt (ed_var rfl (hv.upB hab x1)) ed_int)) (fun _ => gs_ret (eg_I0 (k := k) hab (eg_take hab rfl (by decide) (by decide)) (eg_pure (P := (· = .int 4)) (fun _ _ _ => ed_int) rfl) ?_)) fun _ => ?_
  · rintro d e ⟨i, rfl, i0, i1⟩ rfl
    exact ⟨i, 4, rfl, rfl, i - 4, rfl, by omega, by omega⟩
  refine gs_if (c := PyData.eqv (.int r) (.int 3)) (fun H1 x1 _ => et_t (ed_eq (ed_var rfl (hv.upB hab x1)) ed_int (sh_int _) (sh_int _))) (fun _ => gs_ret (eg_I0 (k := k) hab (eg_takeE (u := 2000000) (P1 := (· = .int 2000000)) hab rfl (eg_pure (fun _ _ _ => mu 2 6 ⟨by decide, by decide, by decide⟩ (.inl ⟨by decide, by decide⟩)) rfl) (fun d e => ⟨2000000, e, by decide, by decide, by decide⟩)) (eg_pure (P := (· = .int 1000000)) (fun _ _ _ => pw 6 ⟨by decide, by decide, by decide⟩) rfl) ?_)) fun _ => ?_
  · rintro d e ⟨i, rfl, i0, i1⟩ rfl
    exact ⟨i, 1000000, rfl, rfl, i - 1000000, rfl, by omega, by omega⟩
  refine gs_set (k := k) (P1 := fun d => ∃ j, d = .int j ∧ 0 ≤ j ∧ j ≤ 1000000000000) (eg_ixL (k := k) hab (eg_pure (P := (· = .list [.int 1000000000000, .int 999999999999, .int 500000000000, .int 500000000001, .int 1000000, .int 1000001]))
      (fun H1 x1 kn1 => ed_lst kn1 (ea_cons (pw 12 ⟨by decide, by decide, by decide⟩) (ea_cons (ed_sub (pw 12 ⟨by decide, by decide, by decide⟩) ed_int) (ea_cons (mu 5 11 ⟨by decide, by decide, by decide⟩ (.inl ⟨by decide, by decide⟩)) (ea_cons (ed_add (mu 5 11 ⟨by decide, by decide, by decide⟩ (.inl ⟨by decide, by decide⟩)) ed_int) (ea_cons (pw 6 ⟨by decide, by decide, by decide⟩) (ea_cons (ed_add (pw 6 ⟨by decide, by decide, by decide⟩) ed_int) ea_nil)))))) (by decide)) rfl) (eg_take hab rfl (by decide) (by decide)) ?_) fun v2 d2 H2 x2 hv2 ⟨j, ej, j0, j1⟩ =>
    gs_ret (eg_IC (k := k) hab (eg_var (i := 2) (P := (· = .int j)) rfl hab (by rw [ej] at hv2; exact hv2) rfl) (eg_ixL (k := k) (P := fun d => d = .int 1 ∨ d = .int (-1)) hab (eg_pure (P := (· = .list [.int 1, .int (-1)])) (fun H1 x1 kn1 => ed_lst kn1 (ea_cons ed_int (ea_cons (ed_neg ed_int) ea_nil)) (by decide)) rfl) (eg_take hab rfl (by decide) (by decide)) ?_) ?_)
  · rintro d e rfl hi
    obtain ⟨i, z, rfl, hz, hm⟩ := intB_at (ds := [.int 1000000000000, .int 999999999999, .int 500000000000, .int 500000000001, .int 1000000, .int 1000001]) hi (by show (6 : Int) ≤ ((6 : Nat) : Int); decide)
    refine ⟨_, i, z, rfl, rfl, hz, ?_⟩
    simp only [List.mem_cons, List.not_mem_nil, or_false] at hm
    rcases hm with rfl | rfl | rfl | rfl | rfl | rfl <;> exact ⟨_, rfl, by decide, by decide⟩
  · rintro d e rfl hi
    obtain ⟨i, z, rfl, hz, hm⟩ := intB_at (ds := [.int 1, .int (-1)]) hi (by decide)
    refine ⟨_, i, z, rfl, rfl, hz, ?_⟩
    simp only [List.mem_cons, List.not_mem_nil, or_false] at hm
    exact hm
  · rintro d e rfl he
    rcases he with rfl | rfl
    · exact ⟨j, 1, rfl, rfl, .inr ⟨by decide, by decide⟩, j * 1, rfl, by omega, by omega⟩
    · exact ⟨j, -1, rfl, rfl, .inr ⟨by decide, by decide⟩, j * -1, rfl, by omega, by omega⟩
def op8 : List Str := ["add", "less", "times", "over", "same", "below", "over", "over"]
theorem ok_val (D : Def K mg "_law_value" s_val PVl f fd) (D1 : Def K mg "_law_take" s_take ["_law_bag_here", "_law_many"] g gd) (D2 : Def K mg "_law_edge" s_edge ["_law_bag_here"] g2 gd2) (B : Blt mg) : ∀ n, FnOk P w K mg base CX0 (n + 2) f fd PVl (spVx K n)
  | 0 => ⟨fun _ _ _ _ h => absurd h.1 (by decide), fun _ _ _ _ _ _ _ _ _ _ _ _ _ h => absurd h.1 (by decide)⟩
  | n + 1 => by
    have IH := ok_val D D1 D2 B n
    refine D.F.ok sc_val (fun vs H Q E ⟨_, b, a, e, _⟩ => by rw [e]; rfl) (fun cdv A outer s H vs Q E hr h => ?_)
    obtain ⟨_, b, a, rfl, hab, kn, bg, q⟩ := h
    have G1 := ok_take (P := P) (w := w) (base := base) D1
    have G2 := ok_edge (P := P) (w := w) (base := base) D2 D1
    have r1 : Room 1 _ := hr.mono (by omega)
    have r2 : Room 2 _ := hr.mono (by omega)
    refine ⟨_, pss_cons (ps_set (i := 2) sc_val.nd rfl (Or.inl rfl) (pe_cd D1 G1 r1 (pa_cons (pv 0) (pa_cons pe_int pa_nil))))
      (pss_cons (ps_if (PW.pt (pw_or (pt_cmpR (op_eqD (hu64 hr)) (pv 1) pe_int (nomark _)) (pw_or1 (pt_cmpR (op_eqD (hu64 hr)) (pv 2) pe_int (nomark _))))) (pss_one (ps_ret (pe_ix ix_list (pe_lst (pa_cons (pe_cd D2 G2 r2 (pa_cons (pv 0) pa_nil)) (pa_cons (pe_tupF (pa_cons pe_str (pa_cons (pe_ix ix_str pe_str (pe_cd D1 G1 r1 (pa_cons (pv 0) (pa_cons pe_int pa_nil))) (fun _ _ => rfl)) pa_nil))) pa_nil))) (pe_callTy call_intB rfl B.int bt_int (pa_cons (pe_cmpR op_gt (pv 2) pe_int (nomark _)) pa_nil)) (fun _ _ => rfl)))) pss_nil)
      (pss_cons (ps_set (i := 3) sc_val.nd rfl (Or.inl rfl) (pe_ix ix_list (pe_lst (pa_cons pe_str (pa_cons pe_str (pa_cons pe_str (pa_cons pe_str (pa_cons pe_str (pa_cons pe_str (pa_cons pe_str (pa_cons pe_str pa_nil))))))))) (pe_cd D1 G1 r1 (pa_cons (pv 0) (pa_cons pe_int pa_nil))) (fun _ _ => rfl)))
      (pss_one (ps_ret (pe_tupF (pa_cons (pv 3) (pa_cons (pe_cd D IH hr (pa_cons (pv 0) (pa_cons (pe_op op_sub (pv 1) pe_int) pa_nil))) (pa_cons (pe_cd D IH hr (pa_cons (pv 0) (pa_cons (pe_op op_sub (pv 1) pe_int) pa_nil))) pa_nil)))))))), ?_⟩
    have tk : ∀ {σ' : L2.St} {H'' : Hp} {u : Int}, σ'[0]? = some (some (.ref a)) → 0 < u → u < 1073741824 → EG K b a 0 0 (tCall (spTake K) [] E0 (tCons (tVar 0) (tCons (tC (.int u)) tNil))) σ' H'' (IntB u) := fun {_ _ _} h1 h2 h3 => eg_take hab h1 h2 h3
    refine GS.fin (n := 0) (m := 0) (P := VxP (n + 1)) (gs_set (k := 0) (tk rfl (by decide) (by decide)) fun v d H1 x1 hv ⟨r, er, r0, r1⟩ => ?_) kn bg q
    subst er
    have ev := dq_int hv
    subst ev
    refine gs_if (c := PyData.eqv (.int ((n + 1 : Nat) : Int)) (.int 1) || PyData.eqv (.int r) (.int 0)) (fun H2 x2 _ => ?_) (fun _ => gs_ret (eg_ixL (k := 0) (P1 := fun d => ∃ e f, d = .list [e, f] ∧ VxP (n + 1) e ∧ VxP (n + 1) f) (P2 := fun d => d = .int 0 ∨ d = .int 1) hab (eg_lst (ega_cons (k := 0) hab (eg_call (c := 0) (S := (· = [])) hab rfl ega_nil (fun _ e => e) fun _ _ _ z => z) (ega_cons (k := 0) (P := VxP (n + 1)) hab (eg_tup (ega_cons (k := 0) (P := (· = .str "name")) hab (eg_pure (fun _ _ _ => ed_str) rfl) (ega_cons (k := 0) hab (eg_xy hab rfl) ega_nil)) ?_) ega_nil)) ?_) (eg_pure (fun H3 x3 kn3 => ed_intB (ed_gt (ed_var (i := 2) (d := .int r) rfl (.int r)) ed_int)) ?_) ?_)) fun hc => ?_
    · have e1 := et_t (ed_eq (K := K) (b := b) (σ := [some (V.ref a), some (.int ((n + 1 : Nat) : Int)), some (.int r), none]) (H := H2) (ed_var (i := 1) (d := .int ((n + 1 : Nat) : Int)) rfl (.int _)) (ed_int (i := 1)) (sh_int _) (sh_int _))
      have e2 := et_t (ed_eq (K := K) (b := b) (σ := [some (V.ref a), some (.int ((n + 1 : Nat) : Int)), some (.int r), none]) (H := H2) (ed_var (i := 2) (d := .int r) rfl (.int r)) (ed_int (i := 0)) (sh_int _) (sh_int _))
      have e3 := et_or e1 (fun _ => e2)
      exact e3
    · rintro l ⟨d1, r1', rfl, rfl, d2, r2', rfl, hx, rfl⟩
      refine ⟨by show 2 ≤ sizeLine; decide, ?_⟩
      rcases hx with rfl | rfl
      · exact ⟨.nm "x", rfl, by show PyData.strOk "x" = true; decide +kernel, by show 1 ≤ n + 1; omega⟩
      · exact ⟨.nm "y", rfl, by show PyData.strOk "y" = true; decide +kernel, by show 1 ≤ n + 1; omega⟩
    · rintro l ⟨d1, r1', rfl, ⟨i, rfl, hi⟩, d2, r2', rfl, p2, rfl⟩
      exact ⟨by show 2 ≤ sizeLine; decide, _, _, rfl, ⟨.num i, rfl, hi, by show 1 ≤ n + 1; omega⟩, p2⟩
    · by_cases h7 : (7 : Int) < r
      · right
        rw [decide_eq_true h7]
        rfl
      · left
        rw [decide_eq_false h7]
        rfl
    · rintro d e ⟨e1, e2, rfl, p1, p2⟩ he
      rcases he with rfl | rfl
      · exact ⟨_, 0, e1, rfl, rfl, rfl, p1⟩
      · exact ⟨_, 1, e2, rfl, rfl, rfl, p2⟩
    have hn : 0 < n := by
      cases n with
      | zero =>
        have : PyData.eqv (.int ((0 + 1 : Nat) : Int)) (.int 1) = true := by simp [PyData.eqv]
        rw [this] at hc
        cases hc
      | succ n => exact Nat.succ_pos n
    have sb : ∀ {b' : List Addr} {σ' : L2.St} (H' : Hp), σ'[1]? = some (some (.int ((n + 1 : Nat) : Int))) → ED K b' (tOp (rI0 fun i j => .int (i - j)) (tVar 1) (tC (.int 1))) σ' H' (.int (n : Nat)) := fun {_ _} H' h2 => (ed_sub (ed_var (i := 1) (d := .int ((n + 1 : Nat) : Int)) h2 (.int _)) (ed_int (i := 1))).to (by
      have : ((n + 1 : Nat) : Int) - 1 = (n : Nat) := by omega
      rw [this])
    refine gs_set (k := 0) (P1 := fun d => ∃ o ∈ opW, d = .str o) (eg_ixL (k := 0) hab (eg_pure (P := (· = .list (op8.map .str))) (fun H2 x2 kn2 => ed_lst (ds := op8.map .str) kn2 (ea_cons ed_str (ea_cons ed_str (ea_cons ed_str (ea_cons ed_str (ea_cons ed_str (ea_cons ed_str (ea_cons ed_str (ea_cons ed_str ea_nil)))))))) (by decide)) rfl) (tk rfl (by decide) (by decide)) ?_) fun v4 d4 H4 x4 hv4 ⟨o, ho, eo⟩ => ?_
    · rintro d e rfl hi
      obtain ⟨j, z, rfl, hz, hm⟩ := intB_at (ds := op8.map .str) hi (by decide)
      obtain ⟨o, ho, rfl⟩ := List.mem_map.mp hm
      refine ⟨_, j, _, rfl, rfl, hz, o, ?_, rfl⟩
      have q8 : op8.all (fun o => decide (o ∈ opW)) = true := by decide +kernel
      exact of_decide_eq_true (List.all_eq_true.mp q8 o ho)
    · subst eo
      refine gs_ret (eg_tup (ega_cons (k := 0) (P := (· = .str o)) hab (eg_var (i := 3) rfl hab hv4 rfl) (ega_cons (k := 0) hab (eg_vx (i := 0) hn rfl hab fun H' => sb H' rfl) (ega_cons (k := 0) hab (eg_vx (i := 0) hn rfl hab fun H' => sb H' rfl) ega_nil))) ?_)
      rintro l ⟨d1, r1', rfl, rfl, d2, r2', rfl, ⟨va, rfl, oa, da⟩, d3, r3', rfl, ⟨vb, rfl, ob, db⟩, rfl⟩
      exact ⟨by show 3 ≤ sizeLine; decide, .op o va vb, rfl, ⟨ho, oa, ob⟩, by show max va.dep vb.dep + 1 ≤ n + 1; omega⟩
end
end Wr

set_option Elab.async false
set_option linter.all false
set_option maxRecDepth 100000
set_option maxHeartbeats 4000000
namespace Wr
open PySem PySem.Spec PyProof.Rows L2 Evl
abbrev s_flo : Stmt := topS 23
abbrev NFl : List Str := ["_law_one", "_law_other", "_law_found"]
abbrev PFl : List Str := ["_law_one", "_law_other"]
theorem sc_flo : FnScope NFl PFl (defScope s_flo) := ⟨rfl, rfl, rfl, by decide +kernel, rfl, by decide +kernel, by decide +kernel⟩
theorem fl_a {i j : Int} (hj : 0 < j) (hi : 0 ≤ i) : i.fdiv j * 1 - (if i < i.fdiv j * 1 * j then 1 else 0) = i.fdiv j := by
  rw [Int.mul_one, Int.fdiv_eq_ediv_of_nonneg i (Int.le_of_lt hj), if_neg (by
    have := Int.ediv_mul_le i (Int.ne_of_gt hj)
    omega)]
  omega
theorem fl_b {i j : Int} (hj : 0 < j) (hi : i ≤ 0) : (-i).fdiv j * (-1) - (if i < (-i).fdiv j * (-1) * j then 1 else 0) = i.fdiv j := by
  rw [Int.fdiv_eq_ediv_of_nonneg i (Int.le_of_lt hj), Int.fdiv_eq_ediv_of_nonneg (-i) (Int.le_of_lt hj)]
  have e1 := Int.mul_ediv_add_emod (-i) j
  have e2 := Int.emod_nonneg (-i) (Int.ne_of_gt hj)
  have e3 := Int.emod_lt_of_pos (-i) hj
  have e4 : (-i) / j * (-1) * j = - (j * ((-i) / j)) := by rw [Int.mul_neg_one, Int.neg_mul, Int.mul_comm]
  rw [e4]
  generalize hm : (-i) / j = m at *
  generalize hr : (-i) % j = r at *
  by_cases r0 : r = 0
  · rw [if_neg (by omega)]
    have := ((Int.ediv_emod_unique (a := i) (r := 0) (q := -m) hj).mpr ⟨by rw [Int.mul_neg]; omega, by omega, hj⟩).1
    omega
  · rw [if_pos (by omega)]
    have := ((Int.ediv_emod_unique (a := i) (r := j - r) (q := -m - 1) hj).mpr ⟨by rw [Int.mul_sub, Int.mul_neg, Int.mul_one]; omega, by omega, by omega⟩).1
    omega
def absI (i : Int) : Int := if i < 0 then -i else i
theorem fl_all {i j : Int} (hj : j ≠ 0) : (if 0 < j then (absI i).fdiv (absI j) * (if (decide (i < 0) != decide (j < 0)) = true then -1 else 1) - (if i < (absI i).fdiv (absI j) * (if (decide (i < 0) != decide (j < 0)) = true then -1 else 1) * j then 1 else 0)
    else (absI i).fdiv (absI j) * (if (decide (i < 0) != decide (j < 0)) = true then -1 else 1) - (if (absI i).fdiv (absI j) * (if (decide (i < 0) != decide (j < 0)) = true then -1 else 1) * j < i then 1 else 0)) = i.fdiv j := by
  unfold absI
  by_cases cj : 0 < j
  · rw [if_pos cj, if_neg (show ¬ j < 0 by omega), decide_eq_false (show ¬ j < 0 by omega)]
    by_cases ci : i < 0
    · rw [if_pos ci, decide_eq_true ci, if_pos (by decide)]
      exact fl_b cj (by omega)
    · rw [if_neg ci, decide_eq_false ci, if_neg (by decide)]
      exact fl_a cj (by omega)
  · have cj' : j < 0 := by omega
    rw [if_neg cj, if_pos cj', decide_eq_true cj', ← Int.neg_fdiv_neg i j]
    have sw : ∀ q : Int, (q * j < i) = (-i < q * -j) := fun q => by
      rw [Int.mul_neg]
      exact propext ⟨fun h => by omega, fun h => by omega⟩
    by_cases ci : i < 0
    · rw [if_pos ci, decide_eq_true ci, if_neg (by decide)]
      simp only [sw]
      exact fl_a (i := -i) (j := -j) (by omega) (by omega)
    · rw [if_neg ci, decide_eq_false ci, if_pos (by decide)]
      simp only [sw]
      have := fl_b (i := -i) (j := -j) (by omega) (by omega)
      rw [Int.neg_neg] at this
      exact this
theorem fdiv_le {i j : Int} (hi : Wth i) (hj : 0 < j) (h0 : 0 ≤ i) : 0 ≤ i.fdiv j ∧ i.fdiv j ≤ 1000000000000 := by
  rw [Int.fdiv_eq_ediv_of_nonneg i (Int.le_of_lt hj)]
  have h1 := Int.ediv_nonneg h0 (Int.le_of_lt hj)
  have h2 := Int.ediv_le_self j h0
  have := hi.2
  omega
section
variable {P : Program} {w : World} {K : PySem.W.Frag} {mg : Str → Option Value} {base : Heap} {f g g2 : Addr} {fd gd gd2 : FuncData}
def FloPre (ds : List PyData) : Prop := ∃ i j, ds = [.int i, .int j] ∧ Wth i ∧ Wth j ∧ j ≠ 0
def floOf (ds : List PyData) : PyData := match ds with
  | [.int i, .int j] => .int (i.fdiv j)
  | _ => .none
theorem blEq (x y : Bool) : PyData.eqv (.bool x) (.bool y) = (x == y) := by
  cases x <;> cases y <;> simp [PyData.eqv]
theorem ok_flo (D : Def K mg "_law_floor" s_flo PFl f fd) (B : Blt mg) (B2 : Blt2 mg) : FnOk P w K mg base CX0 1 f fd PFl (spP K FloPre floOf) := by
  refine D.F.ok sc_flo (fun vs H Q E h => spP_len (fun _ ⟨i, j, e, _⟩ => by rw [e]; rfl) h) (fun cdv A outer s H vs Q E hr h => ?_)
  obtain ⟨b, ds, kn, hd, ⟨i, j, rfl, hi, hj, hj0⟩, q⟩ := h
  cases hd with
  | @cons v1 _ _ _ h1 hd =>
  cases hd with
  | @cons v2 _ _ _ h2 hd =>
  cases hd
  have ev1 := dq_int h1
  have ev2 := dq_int h2
  subst ev1
  subst ev2
  refine ⟨_, pss_cons (ps_set (i := 2) sc_flo.nd rfl (Or.inl rfl) (pe_op op_mul (pe_op op_fdivS (pe_callB call_absB rfl B2.abs bb_abs (pa_cons (pv 0) pa_nil)) (pe_callB call_absB rfl B2.abs bb_abs (pa_cons (pv 1) pa_nil))) (pe_ix ix_list (pe_lst (pa_cons pe_int (pa_cons (pe_un un_neg pe_int) pa_nil))) (pe_callTy call_intB rfl B.int bt_int (pa_cons (pe_cmpR (op_neD (hu64 hr)) (pe_cmpR op_lt (pv 0) pe_int (nomark _)) (pe_cmpR op_lt (pv 1) pe_int (nomark _)) (nomark _)) pa_nil)) (fun _ _ => rfl))))
    (pss_cons (ps_if (pt_cmpR op_gt (pv 1) pe_int (nomark _)) (pss_one (ps_ret (pe_op op_sub (pv 2) (pe_callTy call_intB rfl B.int bt_int (pa_cons (pe_cmpR op_gt (pe_op op_mul (pv 2) (pv 1)) (pv 0) (nomark _)) pa_nil))))) pss_nil)
    (pss_one (ps_ret (pe_op op_sub (pv 2) (pe_callTy call_intB rfl B.int bt_int (pa_cons (pe_cmpR op_lt (pe_op op_mul (pv 2) (pv 1)) (pv 0) (nomark _)) pa_nil)))))), ?_⟩
  have h1' : ∀ {σ' : L2.St} {H' : Hp}, σ'[0]? = some (some (.int i)) → ED K b (tVar 0) σ' H' (.int i) := fun {_ _} e => ed_var e (.int i)
  have h2' : ∀ {σ' : L2.St} {H' : Hp}, σ'[1]? = some (some (.int j)) → ED K b (tVar 1) σ' H' (.int j) := fun {_ _} e => ed_var e (.int j)
  have ai : 0 ≤ absI i ∧ Wth (absI i) := by unfold absI Wth; have := hi.1; have := hi.2; split <;> omega
  have aj : 0 < absI j ∧ Wth (absI j) := by unfold absI Wth; have := hj.1; have := hj.2; split <;> omega
  have hq := fdiv_le ai.2 aj.1 ai.1
  have ce : ED K b _ (start NFl [.int i, .int j]) H _ := ed_intB (ed_ne (K := K) (b := b) (ed_lt (h1' rfl) (ed_int (i := 0))) (ed_lt (h2' rfl) (ed_int (i := 0))) (sh_bool _) (sh_bool _))
  rw [blEq] at ce
  have ce2 : ED K b _ (start NFl [.int i, .int j]) H (.int (if (decide (i < 0) != decide (j < 0)) = true then -1 else 1)) := ed_ixL (ed_lst kn (ea_cons (ed_int (i := 1)) (ea_cons (ed_neg (ed_int (i := 1))) ea_nil)) (by decide)) ce (by
    rw [show (!(decide (i < 0) == decide (j < 0))) = (decide (i < 0) != decide (j < 0)) from rfl]
    by_cases c : (decide (i < 0) != decide (j < 0)) = true
    · rw [if_pos c, if_pos c]
      rfl
    · rw [if_neg c, if_neg c]
      rfl)
  generalize hs : (if (decide (i < 0) != decide (j < 0)) = true then (-1 : Int) else 1) = sg at *
  have hsg : sg = -1 ∨ sg = 1 := by
    rw [← hs]
    split
    · exact .inl rfl
    · exact .inr rfl
  have fe := ed_mul (ed_I (C := CDivS) (g := fun i j => .int (i.fdiv j)) (z := .int ((absI i).fdiv (absI j))) (ed_abs (h1' (σ' := start NFl [.int i, .int j]) (H' := H) rfl)) (ed_abs (h2' rfl)) ⟨by show absI j ≠ 0; have := aj.1; omega, aj.2.1, aj.2.2⟩ fun _ => .int _) ce2 (.inr (by rcases hsg with rfl | rfl <;> exact ⟨by decide, by decide⟩))
  refine SR.fin ((sr_set fe fun v3 H3 x3 h3 => ?_ : SR K b _ _ _ (.int (i.fdiv j)))) q
  have ev3 := dq_int h3
  subst ev3
  rw [← fl_all (i := i) hj0, hs]
  generalize hQ : (absI i).fdiv (absI j) * sg = q1 at *
  have wq : -1000000000000 ≤ q1 ∧ q1 ≤ 1000000000000 := by rcases hsg with rfl | rfl <;> omega
  have h3' : ∀ {H' : Hp}, ED K b (tVar 2) [some (.int i), some (.int j), some (.int q1)] H' (.int q1) := fun {_} => ed_var rfl (.int q1)
  have mu : ∀ {H' : Hp}, ED K b (tOp (rI CMul fun i j => .int (i * j)) (tVar 2) (tVar 1)) [some (.int i), some (.int j), some (.int q1)] H' (.int (q1 * j)) := fun {_} => ed_mul h3' (h2' rfl) (.inl ⟨by omega, by omega⟩)
  refine (sr_if (et_t (ed_gt (K := K) (b := b) (h2' rfl) (ed_int (i := 0)))) (fun _ => sr_ret (ed_sub h3' (ed_intB (ed_gt mu (h1' rfl))))) fun _ => sr_ret (ed_sub h3' (ed_intB (ed_lt mu (h1' rfl))))).to ?_
  by_cases c : 0 < j
  · rw [decide_eq_true c, if_pos rfl, if_pos c]
    by_cases c2 : i < q1 * j
    · rw [decide_eq_true c2, if_pos rfl, if_pos c2]
    · rw [decide_eq_false c2, if_neg Bool.false_ne_true, if_neg c2]
  · rw [decide_eq_false c, if_neg Bool.false_ne_true, if_neg c]
    by_cases c2 : q1 * j < i
    · rw [decide_eq_true c2, if_pos rfl, if_pos c2]
    · rw [decide_eq_false c2, if_neg Bool.false_ne_true, if_neg c2]
end
end Wr

set_option Elab.async false
set_option linter.all false
set_option maxRecDepth 100000
set_option maxHeartbeats 4000000
namespace Wr
open PySem PySem.Spec PyProof.Rows L2 Evl
abbrev s_cm : Stmt := topS 24
abbrev NCm : List Str := ["_law_value_here", "_law_x", "_law_one", "_law_other", "_law_u", "_law_v", "_law_some", "_law_found"]
abbrev PCm : List Str := ["_law_value_here", "_law_x"]
theorem sc_cm : FnScope NCm PCm (defScope s_cm) := ⟨rfl, rfl, rfl, by decide +kernel, rfl, by decide +kernel, by decide +kernel⟩
def comeD : Int ⊕ Int → PyData
  | .inl f => .tuple [.str "fault", .int f]
  | .inr w => .tuple [.str "worth", .int w]
def spCm (K : PySem.W.Frag) (n : Nat) : Sp := fun vs H Q _ => ∃ (b : List Addr) (v : Vx) (x : Int), Kn b H ∧ DqAll K b H vs [v.d, .int x] ∧ v.ok ∧ v.dep ≤ n ∧ Wth x ∧ ∀ u H', Ex H H' → Dq K b H' u (comeD (ev (rho0 x) v)) → Q u H'
section
variable {K : PySem.W.Frag} {b : List Addr} {σ : L2.St} {H H' : Hp} {ta tb te : TE} {t : TA} {tt : TT} {ts t1 t2 : TS} {d e z : PyData}
theorem sr_yes (hc : EvT tt σ H true) (h1 : SR K b t1 σ H d) : SR K b (tSeq (tIfS tt t1 tNext) t2) σ H d := (sr_if (e := .none) hc (fun _ => h1) fun h => by cases h).to (if_pos rfl)
theorem sr_no (hc : EvT tt σ H false) (h2 : SR K b t2 σ H d) : SR K b (tSeq (tIfS tt t1 tNext) t2) σ H d := (sr_if (d := .none) hc (fun h => by cases h) fun _ => h2).to (if_neg Bool.false_ne_true)
theorem ed_cm {E : XK} {n : Nat} {v : Vx} {x : Int} (kn : Kn b H) (ha : EA K b t σ H [v.d, .int x]) (ok : v.ok) (dp : v.dep ≤ n) (hx : Wth x) : ED K b (tCall (spCm K n) [] E t) σ H (comeD (ev (rho0 x) v)) := fun H1 x1 Q q =>
  ha H1 x1 _ fun vs H2 x2 hvs => ⟨b, v, x, kn.up (x1.trans x2), by rw [List.append_nil]; exact hvs, ok, dp, hx, fun u H3 x3 hu => q u H3 (x2.trans x3) hu⟩
theorem sr_par {i j : Nat} (h : EA K b t σ H [d, e]) (k : ∀ u v H', Ex H H' → Dq K b H' u d → Dq K b H' v e → SR K b ts ((σ.set i (some u)).set j (some v)) H' z) :
    SR K b (tSeq (tPar i j t) ts) σ H z := fun H1 x1 D q =>
  h H1 x1 _ fun vs H2 x2 hv => by
    cases hv with
    | cons p1 p2 =>
      cases p2 with
      | cons p3 p4 =>
        cases p4
        exact ⟨_, _, rfl, k _ _ H2 (x1.trans x2) p1 p3 H2 (Ex.refl H2) D fun v' H3 x3 hv' => q v' H3 (x2.trans x3) hv'⟩
/-- {"add": ..}, five pairs of texts and numbers -/
theorem sr_disp5 {i : Nat} {a1 a2 a3 a4 a5 : TE} {k1 k2 k3 k4 k5 : Str} {n1 n2 n3 n4 n5 : Int} (h1 : ∀ H', ED K b a1 σ H' (.int n1)) (h2 : ∀ H', ED K b a2 σ H' (.int n2)) (h3 : ∀ H', ED K b a3 σ H' (.int n3)) (h4 : ∀ H', ED K b a4 σ H' (.int n4)) (h5 : ∀ H', ED K b a5 σ H' (.int n5))
    (k : ∀ p H', Ex H H' → H' p = some (.dK (mergeK [] [(Sum.inr k1, .int n1), (Sum.inr k2, .int n2), (Sum.inr k3, .int n3), (Sum.inr k4, .int n4), (Sum.inr k5, .int n5)])) → SR K b ts (σ.set i (some (.ref p))) H' z) :
    SR K b (tSeq (tAsg (tDisp [(tC (.str k1), a1), (tC (.str k2), a2), (tC (.str k3), a3), (tC (.str k4), a4), (tC (.str k5), a5)]) (gName i)) ts) σ H z := fun H1 x1 D q p hp => by
  have x0 : Ex H1 (upd H1 p (.dK [])) := Ex.new hp
  refine h1 _ _ (Ex.refl _) _ fun v1 H2 x2 e1 => h2 _ _ (Ex.refl _) _ fun v2 H3 x3 e2 => h3 _ _ (Ex.refl _) _ fun v3 H4 x4 e3 => h4 _ _ (Ex.refl _) _ fun v4 H5 x5 e4 => h5 _ _ (Ex.refl _) _ fun v5 H6 x6 e5 => ?_
  rw [dq_int e1, dq_int e2, dq_int e3, dq_int e4, dq_int e5]
  have xx : Ex (upd H1 p (.dK [])) H6 := (((x2.trans x3).trans x4).trans x5).trans x6
  refine ⟨xx _ _ upd_same, [(Sum.inr k1, .int n1), (Sum.inr k2, .int n2), (Sum.inr k3, .int n3), (Sum.inr k4, .int n4), (Sum.inr k5, .int n5)], rfl, by show 5 ≤ 15; decide, ?_⟩
  have x7 : Ex H1 (upd H6 p (.dK (mergeK [] [(Sum.inr k1, .int n1), (Sum.inr k2, .int n2), (Sum.inr k3, .int n3), (Sum.inr k4, .int n4), (Sum.inr k5, .int n5)]))) := fun c o h => by
    rw [upd_ne (fun e => by rw [e, hp] at h; cases h)]
    exact xx _ _ (x0 _ _ h)
  exact k p _ (x1.trans x7) upd_same _ (Ex.refl _) D fun v H8 x8 hv => q v H8 (x7.trans x8) hv
theorem ed_dgK {i : Nat} {p : Addr} {kvs : List (Key × V)} {y : Str} {n : Int} (hσ : σ[i]? = some (some (.ref p))) (hp : H p = some (.dK kvs)) (hk : ED K b te σ H (.str y)) (hv : valV kvs (Sum.inr y) = some (.int n)) : ED K b (tDGet (tVar i) te) σ H (.int n) := fun H1 x1 Q q =>
  ⟨.ref p, hσ, hk H1 x1 _ fun v H2 x2 e => by
    rw [dq_str e]
    refine ⟨p, .int n, rfl, .inl ⟨kvs, Sum.inr y, .inl (x2 _ _ (x1 _ _ hp)), rfl, hv.symm⟩, q _ H2 x2 (.int _)⟩⟩
end
theorem come_opR {o : Str} {i j : Int} (h : ¬ (o = "over" ∧ j = 0)) : (if (decide (-1000000000000 ≤ opN o i j) && decide (opN o i j ≤ 1000000000000)) = true then PyData.tuple [.str "worth", .int (opN o i j)] else .tuple [.str "fault", .int (-2)]) = comeD (opR o i j) := by
  unfold opR
  rw [if_neg h]
  by_cases c : -1000000000000 ≤ opN o i j ∧ opN o i j ≤ 1000000000000
  · rw [if_pos c, decide_eq_true c.1, decide_eq_true c.2, if_pos (by decide)]
    rfl
  · rw [if_neg c, if_neg (fun z => c ⟨of_decide_eq_true (Bool.and_eq_true_iff.mp z).1, of_decide_eq_true (Bool.and_eq_true_iff.mp z).2⟩)]
    rfl
theorem opTab {o : Str} (ho : o ∈ opW) (hn : o ≠ "over") (i j : Int) : valV (mergeK [] [(Sum.inr "add", .int (i + j)), (Sum.inr "less", .int (i - j)), (Sum.inr "times", .int (i * j)), (Sum.inr "same", .int (if PyData.eqv (.int i) (.int j) = true then 1 else 0)), (Sum.inr "below", .int (if decide (i < j) = true then 1 else 0))]) (Sum.inr o) = some (.int (opN o i j)) := by
  unfold opW at ho
  rw [eqv_int]
  simp only [List.mem_cons, List.not_mem_nil, or_false] at ho
  rcases ho with rfl | rfl | rfl | rfl | rfl | rfl
  · rfl
  · rfl
  · rfl
  · exact absurd rfl hn
  · have e : opN "same" i j = if (i == j) = true then 1 else 0 := by
      show (if i = j then (1 : Int) else 0) = _
      by_cases c : i = j
      · rw [if_pos c, if_pos (beq_iff_eq.mpr c)]
      · rw [if_neg c, if_neg (fun z => c (eq_of_beq z))]
    rw [e]
    rfl
  · have e : opN "below" i j = if decide (i < j) = true then 1 else 0 := by
      show (if i < j then (1 : Int) else 0) = _
      by_cases c : i < j
      · rw [if_pos c, if_pos (decide_eq_true c)]
      · rw [if_neg c, if_neg (fun z => c (of_decide_eq_true z))]
    rw [e]
    rfl
section
variable {P : Program} {w : World} {K : PySem.W.Frag} {mg : Str → Option Value} {base : Heap} {f g g2 : Addr} {fd gd gd2 : FuncData}
theorem ok_cm (D : Def K mg "_law_come_to" s_cm PCm f fd) (D1 : Def K mg "_law_floor" s_flo PFl g gd) (B : Blt mg) (B2 : Blt2 mg) : ∀ n, FnOk P w K mg base CX0 (n + 2) f fd PCm (spCm K n)
  | 0 => fnok_none fun vs H Q E ⟨b, v, x, _, _, _, hd, _⟩ => by
    have := dep_pos v
    omega
  | n + 1 => by
    have IH := ok_cm D D1 B B2 n
    refine D.F.ok sc_cm (fun vs H Q E ⟨b, v, x, _, hd, _⟩ => by cases hd with | cons _ h => cases h with | cons _ h => cases h; rfl) (fun cdv A outer s H vs Q E hr h => ?_)
    obtain ⟨b, v, x, kn, hd, vok, vdep, hx, q⟩ := h
    cases hd with
    | @cons v1 _ _ _ h1 hd =>
    cases hd with
    | @cons v2 _ _ _ h2 hd =>
    cases hd
    have ev2 := dq_int h2
    subst ev2
    have G1 := ok_flo (P := P) (w := w) (base := base) D1 B B2
    have r1 : Room 1 _ := hr.mono (by omega)
    refine ⟨_, pss_cons (ps_if (pt_val (pe_callB call_isi rfl B.isi bb_isinstance (pa_cons (pv 0) (pa_cons (pe_tyN rfl B.int bt_int) pa_nil)))) (pss_one (ps_ret (pe_tupF (pa_cons pe_str (pa_cons (pv 0) pa_nil))))) pss_nil)
      (pss_cons (ps_if (pt_cmpR (op_eqD (hu64 hr)) (pe_ix ix_tup (pv 0) pe_int (fun _ _ => rfl)) pe_str (nomark _)) (pss_one (ps_ret (pe_ifExp (pt_cmpR (op_eqD (hu64 hr)) (pe_ix ix_tup (pv 0) pe_int (fun _ _ => rfl)) pe_str (nomark _)) (pe_tupF (pa_cons pe_str (pa_cons (pv 1) pa_nil))) (pe_tupF (pa_cons pe_str (pa_cons (pe_un un_neg pe_int) pa_nil)))))) pss_nil)
      (pss_cons (ps_set (i := 2) sc_cm.nd rfl (Or.inl rfl) (pe_cd D IH hr (pa_cons (pe_ix ix_tup (pv 0) pe_int (fun _ _ => rfl)) (pa_cons (pv 1) pa_nil))))
      (pss_cons (ps_if (pt_cmpR (op_eqD (hu64 hr)) (pe_ix ix_tup (pv 2) pe_int (fun _ _ => rfl)) pe_str (nomark _)) (pss_one (ps_ret (pv 2))) pss_nil)
      (pss_cons (ps_set (i := 3) sc_cm.nd rfl (Or.inl rfl) (pe_cd D IH hr (pa_cons (pe_ix ix_tup (pv 0) pe_int (fun _ _ => rfl)) (pa_cons (pv 1) pa_nil))))
      (pss_cons (ps_if (pt_cmpR (op_eqD (hu64 hr)) (pe_ix ix_tup (pv 3) pe_int (fun _ _ => rfl)) pe_str (nomark _)) (pss_one (ps_ret (pv 3))) pss_nil)
      (pss_cons (ps_par (i := 4) (j := 5) rfl sc_cm.nd rfl rfl (by decide) rfl rfl (pa_cons (pe_ix ix_tup (pv 2) pe_int (fun _ _ => rfl)) (pa_cons (pe_ix ix_tup (pv 3) pe_int (fun _ _ => rfl)) pa_nil)) rfl)
      (pss_cons (ps_if (PW.pt (pw_and (pt_cmpR (op_eqD (hu64 hr)) (pe_ix ix_tup (pv 0) pe_int (fun _ _ => rfl)) pe_str (nomark _)) (pw_and1 (pt_cmpR (op_eqD (hu64 hr)) (pv 5) pe_int (nomark _))))) (pss_one (ps_ret (pe_tupF (pa_cons pe_str (pa_cons (pe_un un_neg pe_int) pa_nil))))) pss_nil)
      (pss_cons (ps_set (i := 6) sc_cm.nd rfl (Or.inl rfl) (pe_disp (pps_cons pe_str (pe_op op_add (pv 4) (pv 5)) (pps_cons pe_str (pe_op op_sub (pv 4) (pv 5)) (pps_cons pe_str (pe_op op_mul (pv 4) (pv 5)) (pps_cons pe_str (pe_callTy call_intB rfl B.int bt_int (pa_cons (pe_cmpR (op_eqD (hu64 hr)) (pv 4) (pv 5) (nomark _)) pa_nil)) (pps_cons pe_str (pe_callTy call_intB rfl B.int bt_int (pa_cons (pe_cmpR op_lt (pv 4) (pv 5) (nomark _)) pa_nil)) pps_nil))))) rfl rfl (by intro z; cases z) (by decide)))
      (pss_cons (ps_set (i := 7) sc_cm.nd rfl (Or.inl rfl) (pe_ifExp (pt_cmpR (op_eqD (hu64 hr)) (pe_ix ix_tup (pv 0) pe_int (fun _ _ => rfl)) pe_str (nomark _)) (pe_cd D1 G1 r1 (pa_cons (pv 4) (pa_cons (pv 5) pa_nil))) (pe_dget (hu1 hr) (pv 6) (pe_ix ix_tup (pv 0) pe_int (fun _ _ => rfl)) (fun _ _ => rfl))))
      (pss_one (ps_ret (pe_ifExp (pt_chain op_le op_le (pe_un un_neg (pe_op op_pow pe_int pe_int)) (pv 7) (pe_op op_pow pe_int pe_int)) (pe_tupF (pa_cons pe_str (pa_cons (pv 7) pa_nil))) (pe_tupF (pa_cons pe_str (pa_cons (pe_un un_neg pe_int) pa_nil))))))))))))))), ?_⟩
    have tI : EvT (tB (tCB (rIsi K) (tCons (tVar 0) (tCons (tC (.ty "int")) tNil)))) (start NCm [v1, .int x]) H (isD "int" v.d) := et_b (ed_isi (K := K) (b := b) (T := "int") (.inl rfl) (ed_var (i := 0) rfl h1))
    have l2 : (2 : Nat) ≤ sizeLine := by rw [sizeLine_eq]; decide
    have tS : ∀ {te : TE} {σ' : L2.St} {H' : Hp} {y : Str} (z : Str), ED K b te σ' H' (.str y) → PyData.strOk y = true → PyData.strOk z = true → EvT (tTest (tOp (rEqD K) te (tC (.str z)))) σ' H' (decide (y = z)) := fun {te σ' H' y} z h hy hz => by
      have := et_t (ed_eq h (ed_str (x := z)) (sh_str hy) (sh_str hz))
      rw [strEq] at this
      exact this
    refine SR.fin (b := b) (d := comeD (ev (rho0 x) v)) ?_ q
    cases v with
    | num i => exact sr_yes tI (sr_ret (ed_tup kn (ea_cons ed_str (ea_cons (ed_var (i := 0) rfl h1) ea_nil)) l2))
    | nm y =>
      refine sr_no tI ?_
      refine sr_yes (by have z := tS "name" (ed_ixT (K := K) (b := b) (ed_var (σ := start NCm [v1, .int x]) (i := 0) rfl h1) (ed_int (i := 0)) (atI0 _ _)) (by decide +kernel) (by decide +kernel); exact z) ?_
      refine (sr_ret (ed_if (tS "x" (ed_ixT (K := K) (b := b) (ed_var (σ := start NCm [v1, .int x]) (i := 0) rfl h1) (ed_int (i := 1)) (atI1 _ _ _)) vok (by decide +kernel)) (fun _ => ed_tup kn (ea_cons ed_str (ea_cons (ed_var (i := 1) rfl h2) ea_nil)) l2) (fun _ => ed_tup kn (ea_cons ed_str (ea_cons (ed_neg ed_int) ea_nil)) l2))).to ?_
      unfold ev rho0
      by_cases c : y = "x"
      · rw [if_pos c, decide_eq_true c, if_pos rfl]
        rfl
      · rw [if_neg c, decide_eq_false c, if_neg Bool.false_ne_true]
        rfl
    | op o va vb =>
      obtain ⟨ho, oka, okb⟩ := vok
      have hdep : va.dep ≤ n ∧ vb.dep ≤ n := by
        have h1 : max va.dep vb.dep + 1 ≤ n + 1 := vdep
        have h2 := Nat.le_max_left va.dep vb.dep
        have h3 := Nat.le_max_right va.dep vb.dep
        omega
      have ho' := opW_not ho
      have hso := opW_ok ho
      have i0 : ∀ {σ' : L2.St} {H' : Hp}, σ'[0]? = some (some v1) → Ex H H' → ED K b (tOp (rIxT K) (tVar 0) (tC (.int 0))) σ' H' (.str o) := fun {_ _} e x' => ed_ixT (ed_var (i := 0) e (Dq.up h1 x')) (ed_int (i := 0)) (atI0 _ _)
      refine sr_no tI ?_
      refine sr_no (by have z := tS "name" (i0 (σ' := start NCm [v1, .int x]) rfl (Ex.refl H)) hso (by decide +kernel); rw [decide_eq_false ho'.1] at z; exact z) ?_
      refine sr_set (ed_cm (n := n) kn (ea_cons (ed_ixT (ed_var (i := 0) rfl h1) (ed_int (i := 1)) (atI1 _ _ _)) (ea_cons (ed_var (i := 1) rfl h2) ea_nil)) oka hdep.1 hx) fun u2 H2 x2 k2 => ?_
      cases ha : ev (rho0 x) va with
      | inl fa =>
        rw [ha] at k2
        rw [ev_op1 ha]
        exact sr_yes (by have z := tS "fault" (ed_ixT (K := K) (b := b) (ed_var (σ := [some v1, some (.int x), some u2, none, none, none, none, none]) (i := 2) rfl k2) (ed_int (i := 0)) (atI0 _ _)) (by decide +kernel) (by decide +kernel); exact z) (sr_ret (ed_var (i := 2) rfl k2))
      | inr i =>
        rw [ha] at k2
        have wi := ev_ok (rho0_ok hx) oka ha
        refine sr_no (by have z := tS "fault" (ed_ixT (K := K) (b := b) (ed_var (σ := [some v1, some (.int x), some u2, none, none, none, none, none]) (i := 2) rfl k2) (ed_int (i := 0)) (atI0 _ _)) (by decide +kernel) (by decide +kernel); exact z) ?_
        refine sr_set (ed_cm (n := n) (kn.up x2) (ea_cons (ed_ixT (ed_var (i := 0) rfl (Dq.up h1 x2)) (ed_int (i := 2)) (atI2 _ _ _ _)) (ea_cons (ed_var (i := 1) rfl (.int x)) ea_nil)) okb hdep.2 hx) fun u3 H3 x3 k3 => ?_
        have k23 := Dq.up k2 x3
        cases hb : ev (rho0 x) vb with
        | inl fb =>
          rw [hb] at k3
          rw [ev_op2 ha hb]
          exact sr_yes (by have z := tS "fault" (ed_ixT (K := K) (b := b) (ed_var (σ := [some v1, some (.int x), some u2, some u3, none, none, none, none]) (i := 3) rfl k3) (ed_int (i := 0)) (atI0 _ _)) (by decide +kernel) (by decide +kernel); exact z) (sr_ret (ed_var (i := 3) rfl k3))
        | inr j =>
          rw [hb] at k3
          have wj := ev_ok (rho0_ok hx) okb hb
          rw [ev_op3 ha hb]
          refine sr_no (by have z := tS "fault" (ed_ixT (K := K) (b := b) (ed_var (σ := [some v1, some (.int x), some u2, some u3, none, none, none, none]) (i := 3) rfl k3) (ed_int (i := 0)) (atI0 _ _)) (by decide +kernel) (by decide +kernel); exact z) ?_
          refine sr_par (d := .int i) (e := .int j) (ea_cons (ed_ixT (ed_var (i := 2) rfl k23) (ed_int (i := 1)) (atI1 _ _ _)) (ea_cons (ed_ixT (ed_var (i := 3) rfl k3) (ed_int (i := 1)) (atI1 _ _ _)) ea_nil)) fun u4 u5 H4 x4 k4 k5 => ?_
          have e4 := dq_int k4
          have e5 := dq_int k5
          subst e4
          subst e5
          have x04 := (x2.trans x3).trans x4
          have kn4 := kn.up x04
          have c4 : ∀ {σ' : L2.St} {H' : Hp}, σ'[4]? = some (some (.int i)) → ED K b (tVar 4) σ' H' (.int i) := fun {_ _} e => ed_var e (.int i)
          have c5 : ∀ {σ' : L2.St} {H' : Hp}, σ'[5]? = some (some (.int j)) → ED K b (tVar 5) σ' H' (.int j) := fun {_ _} e => ed_var e (.int j)
          have t8 := et_and (tS "over" (i0 (σ' := [some v1, some (.int x), some u2, some u3, some (.int i), some (.int j), none, none]) rfl x04) hso (by decide +kernel)) fun _ => et_t (ed_eq (c5 rfl) (ed_int (i := 0)) (sh_int _) (sh_int _))
          rw [eqv_int] at t8
          by_cases hz : o = "over" ∧ j = 0
          · have hzt : (decide (o = "over") && (j == 0)) = true := by rw [decide_eq_true hz.1, hz.2]; rfl
            rw [hzt] at t8
            have hR : opR o i j = .inl (-1) := by unfold opR; rw [if_pos hz]
            rw [hR]
            refine sr_yes t8 (sr_ret (ed_tup kn4 (ea_cons ed_str (ea_cons (ed_neg ed_int) ea_nil)) l2))
          · have hzf : (decide (o = "over") && (j == 0)) = false := by
              cases hq : (decide (o = "over") && (j == 0)) with
              | false => rfl
              | true =>
                have := Bool.and_eq_true_iff.mp hq
                exact absurd ⟨of_decide_eq_true this.1, eq_of_beq this.2⟩ hz
            rw [hzf] at t8
            refine sr_no t8 ?_
            refine sr_disp5 (fun H' => ed_add (c4 rfl) (c5 rfl)) (fun H' => ed_sub (c4 rfl) (c5 rfl)) (fun H' => ed_mul (c4 rfl) (c5 rfl) (.inl ⟨by have := wi.1; omega, by have := wi.2; omega⟩)) (fun H' => ed_intB (ed_eq (c4 rfl) (c5 rfl) (sh_int _) (sh_int _))) (fun H' => ed_intB (ed_lt (c4 rfl) (c5 rfl))) fun p H5 x5 hp => ?_
            have x05 := x04.trans x5
            have fe : ED K b _ [some v1, some (.int x), some u2, some u3, some (.int i), some (.int j), some (.ref p), none] H5 (.int (opN o i j)) := (ed_if (tS "over" (i0 (σ' := [some v1, some (.int x), some u2, some u3, some (.int i), some (.int j), some (.ref p), none]) rfl x05) hso (by decide +kernel)) (fun hc => ed_call (E := E0) (pre := FloPre) (f := floOf) (kn.up x05) (ea_cons (c4 rfl) (ea_cons (c5 rfl) ea_nil)) ⟨i, j, rfl, wi, wj, fun z => hz ⟨of_decide_eq_true hc, z⟩⟩) (fun hc => ed_dgK (n := opN o i j) (i := 6) rfl hp (i0 rfl x05) ?_)).to ?_
            · refine sr_set fe fun u7 H7 x7 k7 => ?_
              have e7 := dq_int k7
              subst e7
              have kn7 := (kn.up x05).up x7
              refine (sr_ret (ed_if (et_t (ed_chain (K := K) (b := b) (ed_neg (ed_I (C := CPow) (g := fun i j => .int (i ^ j.toNat)) (z := .int 1000000000000) (ed_int (i := 10)) (ed_int (i := 12)) ⟨by decide, by decide, by decide⟩ fun _ => .int _)) (ed_var (i := 7) rfl (.int (opN o i j))) (ed_I (C := CPow) (g := fun i j => .int (i ^ j.toNat)) (z := .int 1000000000000) (ed_int (i := 10)) (ed_int (i := 12)) ⟨by decide, by decide, by decide⟩ fun _ => .int _))) (fun _ => ed_tup kn7 (ea_cons ed_str (ea_cons (ed_var (i := 7) rfl (.int (opN o i j))) ea_nil)) l2) (fun _ => ed_tup kn7 (ea_cons ed_str (ea_cons (ed_neg ed_int) ea_nil)) l2))).to ?_
              exact come_opR hz
            · exact opTab ho (of_decide_eq_false hc) i j
            · by_cases c : o = "over"
              · rw [decide_eq_true c, if_pos rfl, c]
                rfl
              · rw [decide_eq_false c, if_neg Bool.false_ne_true]
end
end Wr

set_option Elab.async false
set_option linter.all false
set_option maxRecDepth 100000
set_option maxHeartbeats 4000000
namespace Wr
open PySem PySem.Spec PyProof.Rows L2 Evl
/-! ### what is due -/
def dueD (p : List Int × Str × Int) : PyData := .tuple [.tuple (p.1.map .int), .tuple [.str p.2.1, .int p.2.2]]
def dues : Int ⊕ Int → List (List Int × Str × Int)
  | .inl f => [([], "fault", f), ([], "fault", f), ([], "fault", f), ([], "fault", f), ([f], "back", 0)]
  | .inr w => [([w], "back", 0), ([], "back", w), ([], "fault", w), ([if w = 0 then 3 else 2], "back", 0), ([w, w], "back", 0)]
def sxs (v : Vx) : List (List Sx) := [[.fl (.say v)], [.fl (.bk v), .fl (.say (.num 5))], [.fl (.th v), .fl (.say (.num 5))], [.ite v [.say (.num 2)] [.say (.num 3)]], [.tri [.say v, .th v] "y" [.say (.nm "y")]]]
def outOf (nx : Option Int) (xs : List Sx) : PyData := .tuple [.tuple ((seqG sxO (rhoN nx) xs).1.map PyData.int), endD (seqG sxO (rhoN nx) xs).2.1]
theorem outs (x : Int) (v : Vx) : (sxs v).map (outOf (some x)) = (dues (ev (rho0 x) v)).map dueD := by
  have hr : rhoN (some x) = rho0 x := rfl
  cases h : ev (rho0 x) v with
  | inl f => simp [outOf, sxs, dues, dueD, hr, seqG, sxO, flO, h, ev, endD, putE]
  | inr w =>
    by_cases h0 : w = 0
    · simp [outOf, sxs, dues, dueD, hr, seqG, sxO, flO, h, ev, endD, putE, h0]
    · simp [outOf, sxs, dues, dueD, hr, seqG, sxO, flO, h, ev, endD, putE, h0]
theorem wth40 {i : Int} (h : Wth i) : i.natAbs < 10 ^ 40 := by
  have h1 := h.1
  have h2 := h.2
  have h3 : (2000000000000 : Nat) < 10 ^ 40 := by decide
  omega
theorem due_ok {p : List Int × Str × Int} (h1 : p.1.length ≤ 2) (h2 : ∀ i ∈ p.1, Wth i) (h3 : Wth p.2.2) (h4 : p.2.1 = "back" ∨ p.2.1 = "fault") : okD 30 (dueD p) = true ∧ szD (dueD p) ≤ 16000000 := by
  have hs : PyData.strOk p.2.1 = true ∧ p.2.1.length ≤ 5 := by
    rcases h4 with e | e <;> rw [e] <;> exact ⟨by decide +kernel, by decide +kernel⟩
  constructor
  · refine okL_ok (L := 1000) (Nat.le_refl _) _ _ (okL_tup (n := 29) (by show 2 ≤ 1000; decide) fun d hd => ?_)
    simp only [List.mem_cons, List.not_mem_nil, or_false] at hd
    rcases hd with rfl | rfl
    · refine okL_tup (n := 28) (by rw [List.length_map]; omega) fun d hd => ?_
      obtain ⟨i, hi, rfl⟩ := List.mem_map.mp hd
      exact okL_int (wth40 (h2 i hi))
    · refine okL_tup (n := 28) (by show 2 ≤ 1000; decide) fun d hd => ?_
      simp only [List.mem_cons, List.not_mem_nil, or_false] at hd
      rcases hd with rfl | rfl
      · exact okL_str hs.1 (by have := hs.2; omega)
      · exact okL_int (wth40 h3)
  · unfold dueD
    have ha : szAll (p.1.map PyData.int) ≤ (p.1.map PyData.int).length * (1921 + 2) := szAll_le fun d hd => by
      obtain ⟨i, hi, rfl⟩ := List.mem_map.mp hd
      rw [szD_int]
      exact Nat.le_refl _
    rw [List.length_map] at ha
    have := hs.2
    simp only [szD_tup, szAll, szD_str, szD_int]
    omega
theorem dues_ok {R : Int ⊕ Int} (hf : ∀ f, R = .inl f → Wth f) (hw : ∀ w, R = .inr w → Wth w) : ∀ p ∈ dues R, okD 30 (dueD p) = true ∧ szD (dueD p) ≤ 16000000 := by
  have w0 : Wth 0 := ⟨by decide, by decide⟩
  cases R with
  | inl f =>
    have h := hf f rfl
    intro p hp
    simp only [dues, List.mem_cons, List.not_mem_nil, or_false] at hp
    rcases hp with rfl | rfl | rfl | rfl | rfl
    all_goals refine due_ok (by first | exact Nat.zero_le _ | exact Nat.le_succ _ | exact Nat.le_refl _) (fun i hi => ?_) ?_ ?_
    all_goals first
      | exact h
      | exact w0
      | exact .inl rfl
      | exact .inr rfl
      | (simp only [List.mem_cons, List.not_mem_nil, or_false] at hi; subst hi; exact h)
      | cases hi
  | inr w =>
    have h := hw w rfl
    intro p hp
    simp only [dues, List.mem_cons, List.not_mem_nil, or_false] at hp
    have h23 : Wth (if w = 0 then 3 else 2) := by split <;> exact ⟨by decide, by decide⟩
    rcases hp with rfl | rfl | rfl | rfl | rfl
    all_goals refine due_ok (by first | exact Nat.zero_le _ | exact Nat.le_succ _ | exact Nat.le_refl _) (fun i hi => ?_) ?_ ?_
    all_goals first
      | exact h
      | exact w0
      | exact .inl rfl
      | exact .inr rfl
      | (simp only [List.mem_cons, List.not_mem_nil, or_false, or_self] at hi; subst hi; first | exact h | exact h23)
      | cases hi
theorem sxs_ok {v : Vx} (ok : v.ok) (dp : v.dep ≤ 4) : ∀ xs ∈ sxs v, (∀ x ∈ xs, x.ok 1) ∧ xs.length ≤ 6 ∧ cntL xs ≤ 60 := by
  have n5 : (Fl.say (.num 5)).ok := ⟨⟨by decide, by decide⟩, by decide⟩
  have n2 : (Fl.say (.num 2)).ok := ⟨⟨by decide, by decide⟩, by decide⟩
  have n3 : (Fl.say (.num 3)).ok := ⟨⟨by decide, by decide⟩, by decide⟩
  have ny : (Fl.say (.nm "y")).ok := ⟨by show PyData.strOk "y" = true; decide +kernel, by decide⟩
  intro xs hx
  simp only [sxs, List.mem_cons, List.not_mem_nil, or_false] at hx
  rcases hx with rfl | rfl | rfl | rfl | rfl
  · exact ⟨fun x hx => by simp only [List.mem_cons, List.not_mem_nil, or_false] at hx; subst hx; exact ⟨ok, dp⟩, by show 1 ≤ 6; decide, by show 1 ≤ 60; decide⟩
  · exact ⟨fun x hx => by simp only [List.mem_cons, List.not_mem_nil, or_false] at hx; rcases hx with rfl | rfl; exact ⟨ok, dp⟩; exact n5, by show 2 ≤ 6; decide, by show 2 ≤ 60; decide⟩
  · exact ⟨fun x hx => by simp only [List.mem_cons, List.not_mem_nil, or_false] at hx; rcases hx with rfl | rfl; exact ⟨ok, dp⟩; exact n5, by show 2 ≤ 6; decide, by show 2 ≤ 60; decide⟩
  · exact ⟨fun x hx => by simp only [List.mem_cons, List.not_mem_nil, or_false] at hx; subst hx; exact ⟨Nat.le_refl _, ok, dp, fun f hf => by simp only [List.mem_cons, List.not_mem_nil, or_false] at hf; subst hf; exact n2, fun f hf => by simp only [List.mem_cons, List.not_mem_nil, or_false] at hf; subst hf; exact n3, by show 1 ≤ 6; decide, by show 1 ≤ 6; decide⟩, by show 1 ≤ 6; decide, by show 3 ≤ 60; decide⟩
  · exact ⟨fun x hx => by simp only [List.mem_cons, List.not_mem_nil, or_false] at hx; subst hx; exact ⟨Nat.le_refl _, by decide +kernel, fun f hf => by simp only [List.mem_cons, List.not_mem_nil, or_false] at hf; rcases hf with rfl | rfl <;> exact ⟨ok, dp⟩, fun f hf => by simp only [List.mem_cons, List.not_mem_nil, or_false] at hf; subst hf; exact ny, by show 2 ≤ 6; decide, by show 1 ≤ 6; decide⟩, by show 1 ≤ 6; decide, by show 4 ≤ 60; decide⟩
section
variable {K : PySem.W.Frag} {b : List Addr} {σ : L2.St} {H H' : Hp} {ta tb te : TE} {t : TA} {tt : TT} {ts t1 t2 : TS} {d e z : PyData} {ds es : List PyData}
theorem ed_repr (ha : ED K b ta σ H d) (ho : okD 30 d = true) (hz : szD d ≤ 16000000) : ED K b (tCB (rRepr K) (tCons ta tNil)) σ H (.str d.shown) := fun H1 x1 Q q =>
  ha H1 x1 _ fun v H2 x2 hv => ⟨v, d, rfl, Dq.dp hv, ho, hz, q _ H2 x2 (.str _)⟩
theorem ed_neS {x : Str} (ha : ED K b ta σ H (.str x)) (hb : ED K b tb σ H (.str x)) : ED K b (tOp rNe ta tb) σ H (.bool false) :=
  ed_op ha hb fun H1 u v Q _ hu hv q => by
    rw [dq_str hu, dq_str hv]
    exact ⟨rfl, by rw [decide_eq_true rfl]; exact q _ H1 (Ex.refl H1) (.bl _)⟩
theorem ed_me {nx : Option Int} {xs : List Sx} {E : XK} (kn : Kn b H) (ha : EA K b t σ H [tree1 nx xs, .str "a", .tuple (nuD nx)]) (hx : WthN nx) (hs : (∀ x ∈ xs, x.ok 1) ∧ xs.length ≤ 6 ∧ cntL xs ≤ 60) : ED K b (tCall (spMe K) [.int 60] E t) σ H (outOf nx xs) := fun H1 x1 Q q =>
  ha H1 x1 _ fun vs H2 x2 hvs => by
    cases hvs with
    | @cons tv _ _ _ p1 hvs =>
    cases hvs with
    | @cons sv _ _ _ p2 hvs =>
    cases hvs with
    | @cons nv _ _ _ p3 hvs =>
    cases hvs
    rw [dq_str p2]
    exact ⟨b, tv, nv, xs, nx, rfl, kn.up (x1.trans x2), p1, p3, hx, hs.1, hs.2.1, hs.2.2, fun v H3 x3 hv => q v H3 (x2.trans x3) hv⟩
/-- two pairs of texts and data -/
theorem disp2 {a1 a2 : TE} {d1 d2 : PyData} {k1 k2 : Str} (hk : k1 ≠ k2) {H1 : Hp} (kn : Kn b H1) (h1 : ∀ b' H', Kn b' H' → ED K b' a1 σ H' d1) (h2 : ∀ b' H', Kn b' H' → ED K b' a2 σ H' d2) {Q : VK}
    (q : ∀ p v1 v2 H', Ex H1 H' → H' p = some (.dK [(Sum.inr k1, v1), (Sum.inr k2, v2)]) → Dq K b H' v1 d1 → Dq K b H' v2 d2 → Q (.ref p) H') : tDisp [(tC (.str k1), a1), (tC (.str k2), a2)] σ H1 Q := fun p hp => by
  have x0 : Ex H1 (upd H1 p (.dK [])) := Ex.new hp
  have knp : Kn (p :: b) (upd H1 p (.dK [])) := fun c hc => by
    rcases List.mem_cons.mp hc with rfl | hc
    · rw [upd_same]; intro z; cases z
    · exact kn.up x0 c hc
  refine h1 (p :: b) _ knp _ (Ex.refl _) _ fun v1 H2 x2 e1 => h2 (p :: b) _ (knp.up x2) _ (Ex.refl _) _ fun v2 H3 x3 e2 => ?_
  refine ⟨x3 _ _ (x2 _ _ upd_same), [(Sum.inr k1, v1), (Sum.inr k2, v2)], rfl, by show 2 ≤ 15; decide, ?_⟩
  have em : mergeK [] [((Sum.inr k1 : Key), v1), (Sum.inr k2, v2)] = [(Sum.inr k1, v1), (Sum.inr k2, v2)] := by
    have hd : decide ((Sum.inr k1 : Key) = Sum.inr k2) = false := decide_eq_false fun e => hk (by injection e)
    simp [mergeK, putK, hd, hk]
  rw [em]
  refine q p v1 v2 _ (fun c o h => ?_) upd_same ?_ ?_
  · rw [upd_ne (fun e => by rw [e, hp] at h; cases h)]
    exact x3 _ _ (x2 _ _ (x0 _ _ h))
  · exact dp_ex show_ex _ _ (dp_ex put_ex _ _ (Dq.up e1 x3))
  · exact dp_ex show_ex _ _ (dp_ex put_ex _ _ e2)
theorem sr_disp2 {i : Nat} {a1 a2 : TE} {d1 d2 : PyData} {k1 k2 : Str} (hk : k1 ≠ k2) (kn : Kn b H) (h1 : ∀ b' H', Kn b' H' → ED K b' a1 σ H' d1) (h2 : ∀ b' H', Kn b' H' → ED K b' a2 σ H' d2)
    (k : ∀ p v1 v2 H', Ex H H' → H' p = some (.dK [(Sum.inr k1, v1), (Sum.inr k2, v2)]) → Dq K b H' v1 d1 → Dq K b H' v2 d2 → SR K b ts (σ.set i (some (.ref p))) H' z) :
    SR K b (tSeq (tAsg (tDisp [(tC (.str k1), a1), (tC (.str k2), a2)]) (gName i)) ts) σ H z := fun H1 x1 D q =>
  disp2 (Q := fun v H' => ts D (σ.set i (some v)) H') hk (kn.up x1) h1 h2 fun p v1 v2 H2 x2 hp e1 e2 => k p v1 v2 H2 (x1.trans x2) hp e1 e2 H2 (Ex.refl H2) D fun v H3 x3 hv => q v H3 (x2.trans x3) hv
theorem ed_dgD {i : Nat} {p : Addr} {kvs : List (Key × V)} {y : Str} {v : V} (hσ : σ[i]? = some (some (.ref p))) (hp : H p = some (.dK kvs)) (hk : ED K b te σ H (.str y)) (hv : valV kvs (Sum.inr y) = some v) (hd : Dq K b H v d) : ED K b (tDGet (tVar i) te) σ H d := fun H1 x1 Q q =>
  ⟨.ref p, hσ, hk H1 x1 _ fun u H2 x2 e => by
    rw [dq_str e]
    refine ⟨p, v, rfl, .inl ⟨kvs, Sum.inr y, .inl (x2 _ _ (x1 _ _ hp)), rfl, hv.symm⟩, q _ H2 x2 (Dq.up hd (x1.trans x2))⟩⟩
theorem ed_disp2 {a1 a2 : TE} {d1 d2 : PyData} {k1 k2 y : Str} (hk : k1 ≠ k2) (kn : Kn b H) (h1 : ∀ b' H', Kn b' H' → ED K b' a1 σ H' d1) (h2 : ∀ b' H', Kn b' H' → ED K b' a2 σ H' d2) (hy : ∀ H', ED K b te σ H' (.str y)) (hd : y = k1 ∧ d = d1 ∨ y = k2 ∧ d = d2) :
    ED K b (tDGet (tDisp [(tC (.str k1), a1), (tC (.str k2), a2)]) te) σ H d := fun H1 x1 Q q =>
  disp2 hk (kn.up x1) h1 h2 fun p v1 v2 H2 x2 hp e1 e2 => hy H2 H2 (Ex.refl H2) _ fun u H3 x3 eu => by
    rw [dq_str eu]
    have w1 : valV [((Sum.inr k1 : Key), v1), (Sum.inr k2, v2)] (Sum.inr k1) = some v1 := valV_pos (p := ((Sum.inr k1 : Key), v1)) rfl
    have w2 : valV [((Sum.inr k1 : Key), v1), (Sum.inr k2, v2)] (Sum.inr k2) = some v2 := (valV_neg (p := ((Sum.inr k1 : Key), v1)) (fun e => hk (Sum.inr.inj e))).trans (valV_pos (p := ((Sum.inr k2 : Key), v2)) rfl)
    rcases hd with ⟨rfl, rfl⟩ | ⟨rfl, rfl⟩
    · exact ⟨p, v1, rfl, .inl ⟨_, Sum.inr y, .inl (x3 _ _ hp), rfl, w1.symm⟩, q _ H3 (x2.trans x3) (Dq.up e1 x3)⟩
    · exact ⟨p, v2, rfl, .inl ⟨_, Sum.inr y, .inl (x3 _ _ hp), rfl, w2.symm⟩, q _ H3 (x2.trans x3) (Dq.up e2 x3)⟩
theorem sr_lst {i : Nat} (hd : EA K b t σ H ds) (hl : ds.length ≤ sizeLine) (k : ∀ p vs H', Ex H H' → H' p = some (.lst vs) → DqAll K b H' vs ds → SR K b ts (σ.set i (some (.ref p))) H' z) : SR K b (tSeq (tAsg (tLst t) (gName i)) ts) σ H z := fun H1 x1 D q =>
  hd H1 x1 _ fun vs H2 x2 hv => ⟨by rw [dps_len hv]; exact hl, fun p hp => k p vs _ ((x1.trans x2).trans (Ex.new hp)) upd_same (DqAll.up hv (Ex.new hp)) _ (Ex.refl _) D fun v H3 x3 hv' => q v H3 ((x2.trans (Ex.new hp)).trans x3) hv'⟩
theorem sr_cat {i : Nat} {p : Addr} {vs : List V} (hs : σ[i]? = some (some (.ref p))) (hp : H p = some (.lst vs)) (hv : DqAll K b H vs ds) (he : EA K b t σ H es) (hl : ds.length + es.length ≤ sizeLine) (k : ∀ p' us H', Ex H H' → H' p' = some (.lst us) → DqAll K b H' us (ds ++ es) → SR K b ts (σ.set i (some (.ref p'))) H' z) : SR K b (tSeq (tAsg (tOp rCat (tVar i) (tLst t)) (gName i)) ts) σ H z := fun H1 x1 D q =>
  ⟨.ref p, hs, he H1 x1 _ fun ws H2 x2 hw => ⟨by rw [dps_len hw]; omega, fun p1 hp1 => ⟨p, p1, vs, ws, rfl, rfl, Ex.new hp1 _ _ (x2 _ _ (x1 _ _ hp)), upd_same, by rw [dps_len hv, dps_len hw]; exact hl, fun p2 hp2 => by
    have x3 := (Ex.new (o := HO.lst ws) hp1).trans (Ex.new (o := HO.lst (vs ++ ws)) hp2)
    exact k p2 (vs ++ ws) _ ((x1.trans x2).trans x3) upd_same (DqAll.up (dps_app (DqAll.up hv (x1.trans x2)) hw) x3) _ (Ex.refl _) D fun v H4 x4 hv' => q v H4 ((x2.trans x3).trans x4) hv'⟩⟩⟩
end
end Wr

set_option Elab.async false
set_option linter.all false
set_option maxRecDepth 100000
set_option maxHeartbeats 4000000
namespace Wr
open PySem PySem.Spec PyProof.Rows L2 Evl
abbrev s_rt : Stmt := topS 25
abbrev NRt : List Str := ["_law_value_here", "_law_x", "_law_kind", "_law_number", "_law_ends", "_law_tail", "_law_last", "_law_way", "_law_dues", "_law_some", "_law_sayings", "_law_due"]
abbrev PRt : List Str := ["_law_value_here", "_law_x"]
theorem sc_rt : FnScope NRt PRt (defScope s_rt) := ⟨rfl, rfl, rfl, by decide +kernel, rfl, by decide +kernel, by decide +kernel⟩
def spRt (K : PySem.W.Frag) : Sp := fun vs H Q _ => ∃ (b : List Addr) (v : Vx) (x : Int), Kn b H ∧ DqAll K b H vs [v.d, .int x] ∧ v.ok ∧ v.dep ≤ 4 ∧ Wth x ∧ ∀ H', Ex H H' → Q (.bl true) H'
abbrev bk0 : PyData := .tuple [.str "back", .int 0]
abbrev ft (n : Int) : PyData := .tuple [.str "fault", .int n]
def duesE (c : Bool) (n : Int) : List PyData :=
  [.tuple [if c = true then .tuple [.int n] else .tuple [], if c = true then bk0 else ft n], .tuple [.tuple [], if c = true then .tuple [.str "back", .int n] else ft n], .tuple [.tuple [], ft n]] ++
    [if c = true then .tuple [.tuple [.int (3 - (if (c && !PyData.eqv (.int n) (.int 0)) = true then 1 else 0))], bk0] else .tuple [.tuple [], ft n]] ++ [if c = true then .tuple [.tuple [.int n, .int n], bk0] else .tuple [.tuple [.int n], bk0]]
theorem come_ex (R : Int ⊕ Int) : ∃ κ n c, comeD R = .tuple [.str κ, .int n] ∧ decide (κ = "worth") = c ∧ decide (κ = "fault") = (!c) ∧ PyData.strOk κ = true ∧ (c = true ∧ κ = "worth" ∨ c = false ∧ κ = "fault") ∧ duesE c n = (dues R).map dueD := by
  cases R with
  | inl f => exact ⟨"fault", f, false, rfl, by decide +kernel, by decide +kernel, by decide +kernel, .inr ⟨rfl, rfl⟩, rfl⟩
  | inr w =>
    refine ⟨"worth", w, true, rfl, by decide +kernel, by decide +kernel, by decide +kernel, .inl ⟨rfl, rfl⟩, ?_⟩
    by_cases h : w = 0
    · simp [duesE, dues, dueD, eqv_int, h]
    · simp [duesE, dues, dueD, eqv_int, h]
def somesE (d : PyData) : List PyData :=
  [.tuple [.tuple [.str "say", d]], .tuple [.tuple [.str "back", d], .tuple [.str "say", .int 5]], .tuple [.tuple [.str "throw", d], .tuple [.str "say", .int 5]]] ++
    [.tuple [.tuple [.str "if", d, .tuple [.tuple [.str "say", .int 2]], .tuple [.tuple [.str "say", .int 3]]]]] ++ [.tuple [.tuple [.str "try", .tuple [.tuple [.str "say", d], .tuple [.str "throw", d]], .str "y", .tuple [.tuple [.str "say", .tuple [.str "name", .str "y"]]]]]]
theorem somes_eq (v : Vx) : somesE v.d = (sxs v).map fun xs => .tuple (xs.map Sx.d) := rfl
section
variable {K : PySem.W.Frag} {b : List Addr} {σ : L2.St} {H H' : Hp} {ta tb te : TE} {t : TA} {tt : TT} {ts t1 t2 : TS} {d e z : PyData} {ds es : List PyData}
theorem sr_pair {i j : Nat} (h : ED K b te σ H (.tuple [d, e])) (k : ∀ u v H', Ex H H' → Dq K b H' u d → Dq K b H' v e → SR K b ts ((σ.set i (some u)).set j (some v)) H' z) :
    SR K b (tSeq (tAsg te (gTup K 2 (gCons (gName i) (gCons (gName j) gNil)))) ts) σ H z := fun H1 x1 D q =>
  h H1 x1 _ fun v H2 x2 hv => by
    cases hv with
    | tup h1 _ h2 =>
      cases h2 with
      | cons p1 p2 =>
        cases p2 with
        | cons p3 p4 =>
          cases p4
          exact ⟨_, _, rfl, ex_t hid_le h1, rfl, _, _, rfl, _, _, rfl, rfl, k _ _ H2 (x1.trans x2) p1 p3 H2 (Ex.refl H2) D fun v' H3 x3 hv' => q v' H3 (x2.trans x3) hv'⟩
end
section
variable {P : Program} {w : World} {K : PySem.W.Frag} {mg : Str → Option Value} {base : Heap} {f g g2 g3 : Addr} {fd gd gd2 gd3 : FuncData} {dvs : List V} {kws : List (Str × V)} {bd : List Value}
theorem ok_rt (k : Nat) (hk : 6 ≤ k) (D : Def K mg "_law_right" s_rt PRt f fd) (D1 : Def K mg "_law_come_to" s_cm PCm g gd) (D2 : Def K mg "_law_floor" s_flo PFl g2 gd2) (Fm : FunD K "meant" "meant" (defArgs s_me) (defBody s_me) (defScope s_me) dvs kws g3 gd3) (mM : mg "meant" = some (.ref g3))
    (Gm : FnOk P w K mg base CX0 k g3 gd3 ["tree", "part", "numbers", "most"] (spMe K)) (hb : Binds K gd3 ["tree", "part", "numbers", "most"] bd) (hd : Vals [.int 60] bd) (B : Blt mg) (B2 : Blt2 mg) (zz : mg "zip" = none) : FnG P w K mg base (k + 1) f fd PRt (spRt K) := by
  refine D.okG sc_rt (fun vs H Q E ⟨b, v, x, _, hd, _⟩ => by cases hd with | cons _ h => cases h with | cons _ h => cases h; rfl) (fun cdv A outer s H vs Q E hg hr h => ?_)
  obtain ⟨b, v, x, kn, hvs, vok, vdep, hx, q⟩ := h
  cases hvs with
  | @cons v1 _ _ _ h1 hvs =>
  cases hvs with
  | @cons v2 _ _ _ h2 hvs =>
  cases hvs
  have ev2 := dq_int h2
  subst ev2
  have G1 := ok_cm (P := P) (w := w) (base := base) D1 D2 B B2 4
  have r6 : Room (4 + 2) _ := hr.mono hk
  refine ⟨_, pss_cons (ps_asg (pe_cd D1 G1 r6 (pa_cons (pv 0) (pa_cons (pv 1) pa_nil))) (pg_tup rfl (pgs_cons (pg_name (i := 2) sc_rt.nd rfl (Or.inl rfl)) (pgs_cons (pg_name (i := 3) sc_rt.nd rfl (Or.inl rfl)) pgs_nil))))
    (pss_cons (ps_set (i := 4) sc_rt.nd rfl (Or.inl rfl) (pe_disp (pps_cons pe_str (pe_tupF (pa_cons pe_str (pa_cons (pv 3) pa_nil))) (pps_cons pe_str (pe_tupF (pa_cons pe_str (pa_cons (pv 3) pa_nil))) pps_nil)) rfl rfl (by intro z; cases z) (by decide)))
    (pss_cons (ps_set (i := 5) sc_rt.nd rfl (Or.inl rfl) (pe_dget (hu1 hr) (pe_disp (pps_cons pe_str (pe_tupF (pa_cons (pv 3) pa_nil)) (pps_cons pe_str (pe_tupF pa_nil) pps_nil)) rfl rfl (by intro z; cases z) (by decide)) (pv 2) (fun _ _ => rfl)))
    (pss_cons (ps_set (i := 6) sc_rt.nd rfl (Or.inl rfl) (pe_ix ix_list (pe_lst (pa_cons (pe_tupF (pa_cons pe_str (pa_cons pe_int pa_nil))) (pa_cons (pe_dget (hu1 hr) (pv 4) pe_str (fun _ _ => rfl)) pa_nil))) (pe_callTy call_intB rfl B.int bt_int (pa_cons (pe_cmpR (op_eqD (hu64 hr)) (pv 2) pe_str (nomark _)) pa_nil)) (fun _ _ => rfl)))
    (pss_cons (ps_set (i := 7) sc_rt.nd rfl (Or.inl rfl) (pe_callTy call_intB rfl B.int bt_int (pa_cons (pe_and (pe_cmpR (op_eqD (hu64 hr)) (pv 2) pe_str (nomark _)) (pe_one (pe_cmpR (op_neD (hu64 hr)) (pv 3) pe_int (nomark _)))) pa_nil)))
    (pss_cons (ps_set (i := 8) sc_rt.nd rfl (Or.inl rfl) (pe_lst (pa_cons (pe_tupF (pa_cons (pv 5) (pa_cons (pv 6) pa_nil))) (pa_cons (pe_tupF (pa_cons (pe_tupF pa_nil) (pa_cons (pe_dget (hu1 hr) (pv 4) (pv 2) (fun _ _ => rfl)) pa_nil))) (pa_cons (pe_tupF (pa_cons (pe_tupF pa_nil) (pa_cons (pe_tupF (pa_cons pe_str (pa_cons (pv 3) pa_nil))) pa_nil))) pa_nil)))))
    (pss_cons (ps_set (i := 8) sc_rt.nd rfl (Or.inl rfl) (pe_op op_cat (pv 8) (pe_lst (pa_cons (pe_ifExp (pt_cmpR (op_eqD (hu64 hr)) (pv 2) pe_str (nomark _)) (pe_tupF (pa_cons (pe_tupF (pa_cons (pe_op op_sub pe_int (pv 7)) pa_nil)) (pa_cons (pe_tupF (pa_cons pe_str (pa_cons pe_int pa_nil))) pa_nil))) (pe_tupF (pa_cons (pe_tupF pa_nil) (pa_cons (pe_dget (hu1 hr) (pv 4) pe_str (fun _ _ => rfl)) pa_nil)))) pa_nil))))
    (pss_cons (ps_set (i := 8) sc_rt.nd rfl (Or.inl rfl) (pe_op op_cat (pv 8) (pe_lst (pa_cons (pe_ifExp (pt_cmpR (op_eqD (hu64 hr)) (pv 2) pe_str (nomark _)) (pe_tupF (pa_cons (pe_tupF (pa_cons (pv 3) (pa_cons (pv 3) pa_nil))) (pa_cons (pe_tupF (pa_cons pe_str (pa_cons pe_int pa_nil))) pa_nil))) (pe_tupF (pa_cons (pe_tupF (pa_cons (pv 3) pa_nil)) (pa_cons (pe_tupF (pa_cons pe_str (pa_cons pe_int pa_nil))) pa_nil)))) pa_nil))))
    (pss_cons (ps_set (i := 9) sc_rt.nd rfl (Or.inl rfl) (pe_lst (pa_cons (pe_tupF (pa_cons (pe_tupF (pa_cons pe_str (pa_cons (pv 0) pa_nil))) pa_nil)) (pa_cons (pe_tupF (pa_cons (pe_tupF (pa_cons pe_str (pa_cons (pv 0) pa_nil))) (pa_cons (pe_tupF (pa_cons pe_str (pa_cons pe_int pa_nil))) pa_nil))) (pa_cons (pe_tupF (pa_cons (pe_tupF (pa_cons pe_str (pa_cons (pv 0) pa_nil))) (pa_cons (pe_tupF (pa_cons pe_str (pa_cons pe_int pa_nil))) pa_nil))) pa_nil)))))
    (pss_cons (ps_set (i := 9) sc_rt.nd rfl (Or.inl rfl) (pe_op op_cat (pv 9) (pe_lst (pa_cons (pe_tupF (pa_cons (pe_tupF (pa_cons pe_str (pa_cons (pv 0) (pa_cons (pe_tupF (pa_cons (pe_tupF (pa_cons pe_str (pa_cons pe_int pa_nil))) pa_nil)) (pa_cons (pe_tupF (pa_cons (pe_tupF (pa_cons pe_str (pa_cons pe_int pa_nil))) pa_nil)) pa_nil))))) pa_nil)) pa_nil))))
    (pss_cons (ps_set (i := 9) sc_rt.nd rfl (Or.inl rfl) (pe_op op_cat (pv 9) (pe_lst (pa_cons (pe_tupF (pa_cons (pe_tupF (pa_cons pe_str (pa_cons (pe_tupF (pa_cons (pe_tupF (pa_cons pe_str (pa_cons (pv 0) pa_nil))) (pa_cons (pe_tupF (pa_cons pe_str (pa_cons (pv 0) pa_nil))) pa_nil))) (pa_cons pe_str (pa_cons (pe_tupF (pa_cons (pe_tupF (pa_cons pe_str (pa_cons (pe_tupF (pa_cons pe_str (pa_cons pe_str pa_nil))) pa_nil))) pa_nil)) pa_nil))))) pa_nil)) pa_nil))))
    (pss_cons (ps_for PassesOwn.never rfl (RZ.pi_zipA rfl zz (pa_cons (pv 9) (pa_cons (pv 8) pa_nil))) (pg_tup rfl (pgs_cons (pg_name (i := 10) sc_rt.nd rfl (Or.inl rfl)) (pgs_cons (pg_name (i := 11) sc_rt.nd rfl (Or.inl rfl)) pgs_nil)))
      (pss_one (ps_if (pt_cmpR op_ne (pe_callB (r := rRepr K) (call_reprD hg (hu64 hr)) rfl B2.repr bb_repr (pa_cons (pe_call Gm hr rfl mM Fm.kp hb hd pass0 (pa_cons (pe_tupF (pa_cons (pe_tupF (pa_cons pe_str (pa_cons (pe_tupF (pa_cons pe_str pa_nil)) (pa_cons (pv 10) pa_nil)))) pa_nil)) (pa_cons pe_str (pa_cons (pe_tupF (pa_cons (pv 1) pa_nil)) pa_nil)))) pa_nil)) (pe_callB (r := rRepr K) (call_reprD hg (hu64 hr)) rfl B2.repr bb_repr (pa_cons (pv 11) pa_nil)) (nomark _)) (pss_one (ps_ret pe_bl)) pss_nil)))
    (pss_one (ps_ret pe_bl))))))))))))), ?_⟩
  have hsl : sizeLine = 16777216 := sizeLine_eq
  have l0 : (0 : Nat) ≤ sizeLine := Nat.zero_le _
  have l1 : (1 : Nat) ≤ sizeLine := by rw [hsl]; decide
  have l2 : (2 : Nat) ≤ sizeLine := by rw [hsl]; decide
  have l3 : (3 : Nat) ≤ sizeLine := by rw [hsl]; decide
  have l4 : (4 : Nat) ≤ sizeLine := by rw [hsl]; decide
  have l5 : (5 : Nat) ≤ sizeLine := by rw [hsl]; decide
  obtain ⟨κ, n, c, eR, hw, hf, hs, hc, eD⟩ := come_ex (ev (rho0 x) v)
  have ed := ed_cm (n := 4) (E := E0) kn (ea_cons (ed_var (σ := start NRt [v1, .int x]) (i := 0) rfl h1) (ea_cons (ed_var (i := 1) rfl h2) ea_nil)) vok vdep hx
  rw [eR] at ed
  have tS : ∀ {te : TE} {σ' : L2.St} {H' : Hp} (z : Str), ED K b te σ' H' (.str κ) → PyData.strOk z = true → ED K b (tOp (rEqD K) te (tC (.str z))) σ' H' (.bool (decide (κ = z))) := fun {te σ' H'} z h hz => by
    have := ed_eq h (ed_str (x := z)) (sh_str hs) (sh_str hz)
    rw [strEq] at this
    exact this
  refine SR.fin (K := K) (b := b) (d := .bool true) ?_ fun u H' x' hu => by rw [dq_bl hu]; exact q H' x'
  refine sr_pair (d := .str κ) (e := .int n) ed fun u2 u3 H1 x1 k2 k3 => ?_
  have e2 := dq_str k2
  have e3 := dq_int k3
  subst e2
  subst e3
  have kn1 := kn.up x1
  have c2 : ∀ {b' : List Addr} {σ' : L2.St} {H' : Hp}, σ'[2]? = some (some (.str κ)) → ED K b' (tVar 2) σ' H' (.str κ) := fun {_ _ _} e => ed_var e (.str κ)
  have c3 : ∀ {b' : List Addr} {σ' : L2.St} {H' : Hp}, σ'[3]? = some (some (.int n)) → ED K b' (tVar 3) σ' H' (.int n) := fun {_ _ _} e => ed_var e (.int n)
  refine sr_disp2 (d1 := .tuple [.str "back", .int n]) (d2 := ft n) (by decide +kernel) kn1 (fun b' H' kk => ed_tup kk (ea_cons ed_str (ea_cons (c3 rfl) ea_nil)) l2) (fun b' H' kk => ed_tup kk (ea_cons ed_str (ea_cons (c3 rfl) ea_nil)) l2) fun p w1 w2 H2 x2 hp q1 q2 => ?_
  have kn2 := kn1.up x2
  refine sr_set (ed_disp2 (y := κ) (d1 := .tuple [.int n]) (d2 := .tuple []) (d := if c = true then .tuple [.int n] else .tuple []) (by decide +kernel) kn2 (fun b' H' kk => ed_tup kk (ea_cons (c3 rfl) ea_nil) l1) (fun b' H' kk => ed_tup kk ea_nil l0) (fun H' => c2 rfl) ?_) fun u5 H3 x3 k5 => ?_
  · rcases hc with ⟨rfl, e⟩ | ⟨rfl, e⟩
    · exact .inl ⟨e, if_pos rfl⟩
    · exact .inr ⟨e, if_neg Bool.false_ne_true⟩
  have kn3 := kn2.up x3
  have dgf : ∀ {σ' : L2.St} {H' : Hp}, σ'[4]? = some (some (.ref p)) → Ex H2 H' → ED K b (tDGet (tVar 4) (tC (.str "fault"))) σ' H' (ft n) := fun {σ' H'} e xx => ed_dgD (i := 4) e (xx _ _ hp) ed_str rfl (Dq.up q2 xx)
  have tf := tS (te := tVar 2) (σ' := [some v1, some (.int x), some (.str κ), some (.int n), some (.ref p), some u5, none, none, none, none, none, none]) (H' := H3) "fault" (c2 rfl) (by decide +kernel)
  rw [hf] at tf
  refine sr_set (ed_ixL (z := if c = true then bk0 else ft n) (ed_lst kn3 (ea_cons (ed_tup kn3 (ea_cons ed_str (ea_cons ed_int ea_nil)) l2) (ea_cons (dgf rfl x3) ea_nil)) l2) (ed_intB tf) ?_) fun u6 H4 x4 k6 => ?_
  · cases c <;> rfl
  have kn4 := kn3.up x4
  have tw := tS (te := tVar 2) (σ' := [some v1, some (.int x), some (.str κ), some (.int n), some (.ref p), some u5, some u6, none, none, none, none, none]) (H' := H4) "worth" (c2 rfl) (by decide +kernel)
  rw [hw] at tw
  refine sr_set (ed_intB (ed_andB tw fun _ => ed_ne (c3 rfl) (ed_int (i := 0)) (sh_int _) (sh_int _))) fun u7 H5 x5 k7 => ?_
  have kn5 := kn4.up x5
  have k55 := Dq.up k5 (x4.trans x5)
  have k65 := Dq.up k6 x5
  have x25 := (x3.trans x4).trans x5
  have hvk : valV [((Sum.inr "worth" : Key), w1), (Sum.inr "fault", w2)] (Sum.inr κ) = some (if c = true then w1 else w2) := by
    rcases hc with ⟨rfl, e⟩ | ⟨rfl, e⟩
    · rw [e, if_pos rfl]; rfl
    · rw [e, if_neg Bool.false_ne_true]; rfl
  have q12 : ∀ {H'}, Ex H2 H' → Dq K b H' (if c = true then w1 else w2) (if c = true then .tuple [.str "back", .int n] else ft n) := fun {H'} xx => by
    cases c
    · exact Dq.up q2 xx
    · exact Dq.up q1 xx
  refine sr_lst (ea_cons (ed_tup kn5 (ea_cons (ed_var (i := 5) rfl k55) (ea_cons (ed_var (i := 6) rfl k65) ea_nil)) l2) (ea_cons (ed_tup kn5 (ea_cons (ed_tup kn5 ea_nil l0) (ea_cons (ed_dgD (i := 4) rfl (x25 _ _ hp) (c2 rfl) hvk (q12 x25)) ea_nil)) l2) (ea_cons (ed_tup kn5 (ea_cons (ed_tup kn5 ea_nil l0) (ea_cons (ed_tup kn5 (ea_cons ed_str (ea_cons (c3 rfl) ea_nil)) l2) ea_nil)) l2) ea_nil))) l3 fun p8 vs8 H6 x6 hp8 hv8 => ?_
  have kn6 := kn5.up x6
  have tw6 := et_t (tS (te := tVar 2) (σ' := [some v1, some (.int x), some (.str κ), some (.int n), some (.ref p), some u5, some u6, some u7, some (.ref p8), none, none, none]) (H' := H6) "worth" (c2 rfl) (by decide +kernel))
  rw [hw] at tw6
  refine sr_cat (i := 8) rfl hp8 hv8 (ea_cons (ed_if tw6 (fun _ => ed_tup kn6 (ea_cons (ed_tup kn6 (ea_cons (ed_sub ed_int (ed_var (i := 7) rfl (Dq.up k7 x6))) ea_nil) l1) (ea_cons (ed_tup kn6 (ea_cons ed_str (ea_cons ed_int ea_nil)) l2) ea_nil)) l2) (fun _ => ed_tup kn6 (ea_cons (ed_tup kn6 ea_nil l0) (ea_cons (dgf rfl (x25.trans x6)) ea_nil)) l2)) ea_nil) l4 fun p9 vs9 H7 x7 hp9 hv9 => ?_
  have kn7 := kn6.up x7
  have tw7 := et_t (tS (te := tVar 2) (σ' := [some v1, some (.int x), some (.str κ), some (.int n), some (.ref p), some u5, some u6, some u7, some (.ref p9), none, none, none]) (H' := H7) "worth" (c2 rfl) (by decide +kernel))
  rw [hw] at tw7
  refine sr_cat (i := 8) rfl hp9 hv9 (ea_cons (ed_if tw7 (fun _ => ed_tup kn7 (ea_cons (ed_tup kn7 (ea_cons (c3 rfl) (ea_cons (c3 rfl) ea_nil)) l2) (ea_cons (ed_tup kn7 (ea_cons ed_str (ea_cons ed_int ea_nil)) l2) ea_nil)) l2) (fun _ => ed_tup kn7 (ea_cons (ed_tup kn7 (ea_cons (c3 rfl) ea_nil) l1) (ea_cons (ed_tup kn7 (ea_cons ed_str (ea_cons ed_int ea_nil)) l2) ea_nil)) l2)) ea_nil) l5 fun pd us H8 x8 hpd hus => ?_
  have hus : DqAll K b H8 us (duesE c n) := hus
  have kn8 := kn7.up x8
  have x08 : Ex H H8 := (((x1.trans x2).trans x25).trans ((x6.trans x7).trans x8))
  have v0 : ∀ {σ' : L2.St} {H' : Hp}, σ'[0]? = some (some v1) → Ex H8 H' → ED K b (tVar 0) σ' H' v.d := fun {σ' H'} e xx => ed_var e (Dq.up h1 (x08.trans xx))
  have sy : ∀ {σ' : L2.St} {H' : Hp} {y : Str}, σ'[0]? = some (some v1) → Kn b H' → Ex H8 H' → ED K b (tTupF (tCons (tC (.str y)) (tCons (tVar 0) tNil))) σ' H' (.tuple [.str y, v.d]) := fun {σ' H' y} e kk xx => ed_tup kk (ea_cons ed_str (ea_cons (v0 e xx) ea_nil)) l2
  have sn : ∀ {σ' : L2.St} {H' : Hp} {i : Int}, Kn b H' → ED K b (tTupF (tCons (tC (.str "say")) (tCons (tC (.int i)) tNil))) σ' H' (.tuple [.str "say", .int i]) := fun {σ' H' i} kk => ed_tup kk (ea_cons ed_str (ea_cons ed_int ea_nil)) l2
  refine sr_lst (ea_cons (ed_tup kn8 (ea_cons (sy rfl kn8 (Ex.refl _)) ea_nil) l1) (ea_cons (ed_tup kn8 (ea_cons (sy rfl kn8 (Ex.refl _)) (ea_cons (sn kn8) ea_nil)) l2) (ea_cons (ed_tup kn8 (ea_cons (sy rfl kn8 (Ex.refl _)) (ea_cons (sn kn8) ea_nil)) l2) ea_nil))) l3 fun pa vsa H9 x9 hpa hva => ?_
  have kn9 := kn8.up x9
  refine sr_cat (i := 9) rfl hpa hva (ea_cons (ed_tup kn9 (ea_cons (ed_tup kn9 (ea_cons ed_str (ea_cons (v0 rfl x9) (ea_cons (ed_tup kn9 (ea_cons (sn kn9) ea_nil) l1) (ea_cons (ed_tup kn9 (ea_cons (sn kn9) ea_nil) l1) ea_nil)))) l4) ea_nil) l1) ea_nil) l4 fun pb vsb HA xA hpb hvb => ?_
  have knA := kn9.up xA
  have x8A := x9.trans xA
  refine sr_cat (i := 9) rfl hpb hvb (ea_cons (ed_tup knA (ea_cons (ed_tup knA (ea_cons ed_str (ea_cons (ed_tup knA (ea_cons (sy rfl knA x8A) (ea_cons (sy rfl knA x8A) ea_nil)) l2) (ea_cons ed_str (ea_cons (ed_tup knA (ea_cons (ed_tup knA (ea_cons ed_str (ea_cons (ed_tup knA (ea_cons ed_str (ea_cons ed_str ea_nil)) l2) ea_nil)) l2) ea_nil) l1) ea_nil)))) l4) ea_nil) l1) ea_nil) l5 fun psm ss HB xB hps hss => ?_
  have hss : DqAll K b HB ss (somesE v.d) := hss
  have knB := knA.up xB
  have x8B := x8A.trans xB
  intro HC xC DD qq
  have xd := x8B.trans xC
  have hpdC := xd _ _ hpd
  have hpsC := xC _ _ hps
  have husC := DqAll.up hus xd
  have hssC := DqAll.up hss xC
  have lu : us.length = 5 := dps_len hus
  have lss : ss.length = 5 := dps_len hss
  refine ⟨.ref psm, rfl, .ref pd, rfl, psm, pd, ss, us, rfl, .inl ⟨.inl (.inl hpsC), .inl (.inl hpdC), ?_⟩⟩
  refine RZ.for_zipL (xs := ss) (ys := us) (by rw [lss, lu]) (Pv := fun i σ' H' => Ex HC H' ∧ ∃ u w, σ' = [some v1, some (.int x), some (.str κ), some (.int n), some (.ref p), some u5, some u6, some u7, some (.ref pd), some (.ref psm), u, w]) ⟨Ex.refl _, none, none, rfl⟩ (fun i σ' H' ⟨x', _⟩ => ⟨.inl (.inl (x' _ _ hpsC)), .inl (.inl (x' _ _ hpdC))⟩) ?_ ?_
  · rintro i sv dv T σ' H' hsv hdv ⟨x', y1, y2, rfl⟩ hT
    refine ⟨T, [sv, dv], rfl, .inl (.inl upd_same), rfl, _, _, rfl, _, _, rfl, rfl, ?_⟩
    have xT := x'.trans (Ex.new (o := HO.tup [sv, dv]) hT)
    obtain ⟨sd, hsd, dsd⟩ := dps_at hssC hsv
    obtain ⟨dd, hdd, ddd⟩ := dps_at husC hdv
    rw [somes_eq, List.getElem?_map] at hsd
    rw [eD, ← outs, List.getElem?_map] at hdd
    cases hz : (sxs v)[i]? with
    | none => rw [hz] at hsd; cases hsd
    | some xs =>
    rw [hz] at hsd hdd
    have e1 : (.tuple (xs.map Sx.d) : PyData) = sd := Option.some.inj hsd
    have e2 : outOf (some x) xs = dd := Option.some.inj hdd
    subst e1
    subst e2
    have hm := List.mem_of_getElem? hz
    have sok := sxs_ok vok vdep xs hm
    have dok : okD 30 (outOf (some x) xs) = true ∧ szD (outOf (some x) xs) ≤ 16000000 := by
      have hmem : outOf (some x) xs ∈ (sxs v).map (outOf (some x)) := List.mem_map.mpr ⟨xs, hm, rfl⟩
      rw [outs] at hmem
      obtain ⟨pp, hpp, ep⟩ := List.mem_map.mp hmem
      rw [← ep]
      exact dues_ok (fun f hf' => flt_w hf') (fun w' hw' => ev_ok (rho0_ok hx) vok hw') pp hpp
    have dsd' : Dq K b (upd H' T (.tup [sv, dv])) sv (.tuple (xs.map Sx.d)) := Dq.up dsd xT
    have ddd' : Dq K b (upd H' T (.tup [sv, dv])) dv (outOf (some x) xs) := Dq.up ddd xT
    have knT := (knB.up xC).up xT
    have tt := et_t (ed_neS (K := K) (b := b) (σ := [some v1, some (.int x), some (.str κ), some (.int n), some (.ref p), some u5, some u6, some u7, some (.ref pd), some (.ref psm), some sv, some dv]) (ed_repr (ed_me (nx := some x) (xs := xs) (E := E0) knT (ea_cons (ed_tup knT (ea_cons (ed_tup knT (ea_cons ed_str (ea_cons (ed_tup knT (ea_cons ed_str ea_nil) l1) (ea_cons (ed_var (i := 10) rfl dsd') ea_nil))) l3) ea_nil) l1) (ea_cons ed_str (ea_cons (ed_tup knT (ea_cons (ed_var (i := 1) rfl (.int x)) ea_nil) l1) ea_nil))) (fun z e => by cases e; exact hx) sok) dok.1 dok.2) (ed_repr (ed_var (i := 11) rfl ddd') dok.1 dok.2))
    refine tt _ (Ex.refl _) _ fun H2 x2 => ?_
    rw [if_neg Bool.false_ne_true]
    exact gnext ⟨xT.trans x2, _, _, rfl⟩
  · rintro σ' H' ⟨x', y1, y2, rfl⟩
    exact qq _ H' x' (.bl true)
end
end Wr

set_option Elab.async false
set_option linter.all false
set_option maxRecDepth 100000
set_option maxHeartbeats 4000000
namespace Wr
open PySem PySem.Spec PyProof.Rows L2 Evl
section
variable {K : PySem.W.Frag} {b : List Addr} {a : Addr} {n m k : Nat} {σ : L2.St} {H H' : Hp} {ta tb te : TE} {t : TA} {ts : TS} {D : Ends} {P : PyData → Prop} {d : PyData} {ds es : List PyData}
theorem g_setG {i : Nat} {P1 : PyData → Prop} (h : EG K b a n k te σ H P1) (kn : Kn b H) (bg : Bag a n H) (kk : ∀ v d H', ExB a H H' → Bag a k H' → Kn b H' → Dq K b H' v d → P1 d → ts D (σ.set i (some v)) H') : tSeq (tAsg te (gName i)) ts D σ H :=
  h H (ExB.refl a H) kn bg _ fun v d H' x bg' hv p => kk v d H' x bg' (x.kn kn bg') hv p
theorem eg_vxE {E : XK} {i : Nat} {P1 : PyData → Prop} (ha : a ∈ b) (hb : σ[i]? = some (some (.ref a))) (h : EG K b a n m te σ H P1) (hp : ∀ d, P1 d → ∃ l : Nat, d = .int (l : Nat) ∧ 0 < l ∧ l ≤ 4) : EG K b a 0 0 (tCall (fun vs H Q E => ∃ n, n ≤ 4 ∧ spVx K n vs H Q E) [] E (tCons (tVar i) (tCons te tNil))) σ H (VxP 4) := fun H1 x1 kn bg Q q =>
  ⟨.ref a, hb, (EG.any (n' := 0) (m' := 0) h) H1 x1 kn bg _ fun v d H2 x2 b2 hv p => by
    obtain ⟨l, rfl, l0, l4⟩ := hp d p
    rw [dq_int hv]
    exact ⟨l, l4, l0, b, a, rfl, ha, x2.kn kn b2, b2, fun v d H3 x3 b3 hv ⟨vx, e, ok, dp⟩ => q v d H3 (x2.trans x3) b3 hv ⟨vx, e, ok, by omega⟩⟩⟩
theorem ed_me0 {xs : List Sx} {E : XK} {T0 : Addr} (kn : Kn b H) (hT : ∀ H, Dd K H (.ref T0) (.tuple [])) (ha : EA K b t σ H [tree1 none xs, .str "a"]) (hs : (∀ x ∈ xs, x.ok 1) ∧ xs.length ≤ 6 ∧ cntL xs ≤ 60) : ED K b (tCall (spMe K) [.ref T0, .int 60] E t) σ H (outOf none xs) := fun H1 x1 Q q =>
  ha H1 x1 _ fun vs H2 x2 hvs => by
    cases hvs with
    | @cons tv _ _ _ p1 hvs =>
    cases hvs with
    | @cons sv _ _ _ p2 hvs =>
    cases hvs
    rw [dq_str p2]
    exact ⟨b, tv, .ref T0, xs, none, rfl, kn.up (x1.trans x2), p1, hT _, (fun x e => by cases e), hs.1, hs.2.1, hs.2.2, fun v H3 x3 hv => q v H3 (x2.trans x3) hv⟩
end
theorem FnOk.ex {P : Program} {w : World} {K : PySem.W.Frag} {mg : Str → Option Value} {base : Heap} {L N : Nat} {f : Addr} {fd : FuncData} {ps : List Str} {sp : Nat → Sp} (h : ∀ n, n ≤ N → FnOk P w K mg base CX0 L f fd ps (sp n)) : FnOk P w K mg base CX0 L f fd ps (fun vs H Q E => ∃ n, n ≤ N ∧ sp n vs H Q E) :=
  ⟨fun vs H Q E ⟨n, hn, z⟩ => (h n hn).len vs H Q E z, fun A outer s H args us vs Q E hr e0 hb rv ⟨n, hn, z⟩ => (h n hn).run A outer s H args us vs Q E hr e0 hb rv z⟩
def triples : List (Int × Int × Int) := [(7, -2, -4), (-7, 2, -4), (-7, -2, 3), (0, -5, 0), (1000000000000, -1, -1000000000000)]
def trD (t : Int × Int × Int) : PyData := .tuple [.int t.1, .int t.2.1, .int t.2.2]
def sxT (t : Int × Int × Int) : List Sx := [.fl (.bk (.op "over" (.num t.1) (.num t.2.1)))]
def dueT (i : Int) : PyData := .tuple [.tuple [], .tuple [.str "back", .int i]]
theorem dueT_lay (i : Int) : (dueT i).canLay0 = true := by
  have h : PyData.strOk "back" = true := by decide +kernel
  simp [dueT, PyData.canLay0, PyData.canLayAll0, h]
theorem dueT_sh (i : Int) : SeqAt.shaped (dueT i) = true := by
  show ((dueT i).canLay0 && decide ((dueT i).depth ≤ 64)) = true
  rw [dueT_lay]
  simp [dueT, PyData.depth, PyData.depthAll]
theorem dueT_eq (i : Int) : PyData.eqv (dueT i) (dueT i) = true := SeqAt.eqv_refl _ (dueT_lay i)
theorem tri_out : ∀ t ∈ triples, outOf none (sxT t) = dueT t.2.2 ∧ (∀ x ∈ sxT t, x.ok 1) := by
  intro t ht
  simp only [triples, List.mem_cons, List.not_mem_nil, or_false] at ht
  have wok : ∀ i j : Int, Wth i → Wth j → ∀ x ∈ sxT (i, j, 0), x.ok 1 := fun i j hi hj x hx => by
    rw [List.mem_singleton.mp hx]
    exact ⟨⟨by decide +kernel, hi, hj⟩, by show 2 ≤ 4; decide⟩
  rcases ht with rfl | rfl | rfl | rfl | rfl
  · exact ⟨rfl, wok 7 (-2) ⟨by decide, by decide⟩ ⟨by decide, by decide⟩⟩
  · exact ⟨rfl, wok (-7) 2 ⟨by decide, by decide⟩ ⟨by decide, by decide⟩⟩
  · exact ⟨rfl, wok (-7) (-2) ⟨by decide, by decide⟩ ⟨by decide, by decide⟩⟩
  · exact ⟨rfl, wok 0 (-5) ⟨by decide, by decide⟩ ⟨by decide, by decide⟩⟩
  · exact ⟨rfl, wok 1000000000000 (-1) ⟨by decide, by decide⟩ ⟨by decide, by decide⟩⟩
end Wr

set_option Elab.async false
set_option linter.all false
set_option maxRecDepth 100000
set_option maxHeartbeats 4000000
namespace Wr
open PySem PySem.Spec PyProof.Rows L2 Evl
theorem g_forL {K : PySem.W.Frag} {b : List Addr} {ta : TA} {σ : L2.St} {H : Hp} {ds : List PyData} {g : TG} {tb ts : TS} {D : Ends} (h : EA K b ta σ H ds) (hl : ds.length ≤ sizeLine)
    (k : ∀ pT vs H'', Ex H H'' → H'' pT = some (.lst vs) → DqAll K b H'' vs ds → tFor (fun _ H R => R (Itl K pT) H) g tb { D with nx := ts D } σ H'') : tSeq (tFor (iList K (tLst ta)) g tb) ts D σ H :=
  h H (Ex.refl H) _ fun vs H' x hvs => ⟨by rw [dps_len hvs]; exact hl, fun pT hpT => ⟨pT, rfl, ⟨vs, .inl (.inl upd_same)⟩, k pT vs _ (x.trans (Ex.new hpT)) upd_same (DqAll.up hvs (Ex.new hpT))⟩⟩
abbrev s_law : Stmt := topS 26
abbrev NW : List Str := ["_law_script", "_law_at", "_law_bag_here", "_law_turn", "_law_value_here", "_law_one", "_law_other", "_law_due"]
theorem sc_law : FnScope NW ["_law_script"] (defScope s_law) := ⟨rfl, rfl, rfl, by decide +kernel, rfl, by decide +kernel, by decide +kernel⟩
section
variable {P : Program} {w : World} {K : PySem.W.Frag} {mg : Str → Option Value} {base : Heap} {f g1 g2 g3 g4 g5 g6 g7 g8 T0 : Addr} {fd gd1 gd2 gd3 gd4 gd5 gd6 gd7 gd8 : FuncData} {dvs : List V} {kws : List (Str × V)} {bd bd2 : List Value}
theorem ok_law (k : Nat) (hk : 6 ≤ k) (D : Def K mg "law" s_law ["_law_script"] f fd) (B : Blt mg) (B2 : Blt2 mg) (D1 : Def K mg "_law_bag" s_bag ["_law_script", "_law_at"] g1 gd1) (D2 : Def K mg "_law_take" s_take ["_law_bag_here", "_law_many"] g2 gd2) (D3 : Def K mg "_law_edge" s_edge ["_law_bag_here"] g3 gd3) (D4 : Def K mg "_law_value" s_val PVl g4 gd4)
    (D5 : Def K mg "_law_floor" s_flo PFl g5 gd5) (D6 : Def K mg "_law_come_to" s_cm PCm g6 gd6) (D7 : Def K mg "_law_right" s_rt PRt g7 gd7) (Fm : FunD K "meant" "meant" (defArgs s_me) (defBody s_me) (defScope s_me) dvs kws g8 gd8) (mM : mg "meant" = some (.ref g8)) (Gm : FnOk P w K mg base CX0 k g8 gd8 ["tree", "part", "numbers", "most"] (spMe K))
    (hb : Binds K gd8 ["tree", "part", "numbers", "most"] bd) (hd : Vals [.int 60] bd) (hb2 : Binds K gd8 ["tree", "part", "numbers", "most"] bd2) (hd2 : Vals [.ref T0, .int 60] bd2) (hT0 : ∀ H, Dd K H (.ref T0) (.tuple [])) (zz : mg "zip" = none) : FnG P w K mg base (k + 2) f fd ["_law_script"] (spLaw K) := by
  refine D.okG sc_law (fun vs H Q E ⟨a, ns, e, _⟩ => by rw [e]; rfl) (fun cdv A outer s H vs Q E hg hr h => ?_)
  obtain ⟨a, ns, rfl, hS, hn, q⟩ := h
  have r1 : Room 1 _ := hr.mono (by omega)
  have r2 : Room 2 _ := hr.mono (by omega)
  have r6 : Room 6 _ := hr.mono (by omega)
  have rk : Room k _ := hr.mono (by omega)
  have G1 := ok_bag (P := P) (w := w) (base := base) D1 B B2
  have G2 := ok_take (P := P) (w := w) (base := base) D2
  have G3 := ok_edge (P := P) (w := w) (base := base) D3 D2
  have G4 := FnOk.ex (L := 6) (N := 4) (sp := spVx K) fun n hn => (ok_val (P := P) (w := w) (base := base) D4 D2 D3 B n).mono (by omega)
  have G7 := ok_rt k hk D7 D6 D5 Fm mM Gm hb hd B B2 zz
  refine ⟨_, pss_cons (ps_for PassesOwn.never rfl (pi_range1 rfl B.range (pa_cons (pe_callB (cr_max2 rfl) rfl B2.max bb_max (pa_cons pe_int (pa_cons (pe_callB (cr_min2 rfl) rfl B2.min bb_min (pa_cons pe_int (pa_cons (pe_callB call_lenD1 rfl B.len bb_len (pa_cons (pv 0) pa_nil)) pa_nil))) pa_nil))) pa_nil)) (pg_name (i := 1) sc_law.nd rfl (Or.inl rfl))
      (pss_cons (ps_set (i := 2) sc_law.nd rfl (Or.inl rfl) (pe_cd D1 G1 r1 (pa_cons (pv 0) (pa_cons (pv 1) pa_nil))))
      (pss_one (ps_for PassesOwn.never rfl (pi_range1 rfl B.range (pa_cons pe_int pa_nil)) (pg_name (i := 3) sc_law.nd rfl (Or.inl rfl))
        (pss_cons (ps_set (i := 4) sc_law.nd rfl (Or.inl rfl) (pe_cd D4 G4 r6 (pa_cons (pv 2) (pa_cons (pe_ix (r := rIxL K) ix_list (pe_lst (pa_cons pe_int (pa_cons pe_int (pa_cons pe_int (pa_cons pe_int pa_nil))))) (pe_cd D2 G2 r1 (pa_cons (pv 2) (pa_cons pe_int pa_nil))) (fun _ _ => rfl)) pa_nil))))
        (pss_one (ps_if (pt_not (pt_val (pe_cdG D7 G7 hg hr (pa_cons (pv 4) (pa_cons (pe_cd D3 G3 r2 (pa_cons (pv 2) pa_nil)) pa_nil))))) (pss_one (ps_ret pe_bl)) pss_nil)))))))
    (pss_cons (ps_for PassesOwn.never rfl (pi_list (pe_lst (pa_cons (pe_tupF (pa_cons pe_int (pa_cons (pe_un un_neg pe_int) (pa_cons (pe_un un_neg pe_int) pa_nil)))) (pa_cons (pe_tupF (pa_cons (pe_un un_neg pe_int) (pa_cons pe_int (pa_cons (pe_un un_neg pe_int) pa_nil)))) (pa_cons (pe_tupF (pa_cons (pe_un un_neg pe_int) (pa_cons (pe_un un_neg pe_int) (pa_cons pe_int pa_nil)))) (pa_cons (pe_tupF (pa_cons pe_int (pa_cons (pe_un un_neg pe_int) (pa_cons pe_int pa_nil)))) (pa_cons (pe_tupF (pa_cons (pe_op op_pow pe_int pe_int) (pa_cons (pe_un un_neg pe_int) (pa_cons (pe_un un_neg (pe_op op_pow pe_int pe_int)) pa_nil)))) pa_nil)))))))
        (pg_tup rfl (pgs_cons (pg_name (i := 5) sc_law.nd rfl (Or.inl rfl)) (pgs_cons (pg_name (i := 6) sc_law.nd rfl (Or.inl rfl)) (pgs_cons (pg_name (i := 7) sc_law.nd rfl (Or.inl rfl)) pgs_nil))))
        (pss_one (ps_if (pt_cmpR (op_neD (hu64 hr)) (pe_call Gm rk rfl mM Fm.kp hb2 hd2 pass0 (pa_cons (pe_tupF (pa_cons (pe_tupF (pa_cons pe_str (pa_cons (pe_tupF pa_nil) (pa_cons (pe_tupF (pa_cons (pe_tupF (pa_cons pe_str (pa_cons (pe_tupF (pa_cons pe_str (pa_cons (pv 5) (pa_cons (pv 6) pa_nil)))) pa_nil))) pa_nil)) pa_nil)))) pa_nil)) (pa_cons pe_str pa_nil))) (pe_tupF (pa_cons (pe_tupF pa_nil) (pa_cons (pe_tupF (pa_cons pe_str (pa_cons (pv 7) pa_nil))) pa_nil))) (nomark _)) (pss_one (ps_ret pe_bl)) pss_nil)))
    (pss_one (ps_ret pe_bl))), ?_⟩
  have hsl : sizeLine = 16777216 := sizeLine_eq
  have hD : ∀ {H'}, Ex H H' → Dq K [] H' (.ref a) (.list (ns.map .int)) := fun {H'} x => by
    show Dd K (hid [] H') _ _
    rw [hid_nil]
    exact .lst (ex_l x hS) (ints_dps ns)
  have kn0 : ∀ {H' : Hp}, Kn [] H' := fun z hz => nomatch hz
  have cnt := ed_max2 (K := K) (b := []) (ed_int (i := 2)) (ed_min2 (ed_int (i := 6)) (ed_len (ed_var (σ := start NW [.ref a]) (i := 0) rfl (hD (Ex.refl H))) (.inr (.inl rfl)) fun y e => by cases e))
  have c0 : ∀ ll : Int, 2 ≤ (if (if ll < 6 then ll else 6) > 2 then (if ll < 6 then ll else 6) else 2) ∧ (if (if ll < 6 then ll else 6) > 2 then (if ll < 6 then ll else 6) else 2) ≤ 6 := fun ll => by
    by_cases h1 : ll < 6
    · rw [if_pos h1]
      by_cases h2 : ll > 2
      · rw [if_pos h2]; omega
      · rw [if_neg h2]; omega
    · rw [if_neg h1, if_pos (by decide)]; omega
  have c1 := c0 ((lenD (.list (ns.map PyData.int)) : Nat) : Int)
  generalize (if (if ((lenD (.list (ns.map PyData.int)) : Nat) : Int) < 6 then ((lenD (.list (ns.map PyData.int)) : Nat) : Int) else 6) > 2 then (if ((lenD (.list (ns.map PyData.int)) : Nat) : Int) < 6 then ((lenD (.list (ns.map PyData.int)) : Nat) : Int) else 6) else 2) = N at c1 cnt
  refine g_forR (Pv := fun i σ' H' => (∃ y1 y2 y3 y4 y5 y6 y7, σ' = [some (.ref a), y1, y2, y3, y4, y5, y6, y7]) ∧ Ex H H') cnt (by omega) (by omega) (fun H1 x1 => ⟨⟨none, none, none, none, none, none, none, rfl⟩, x1⟩) ?_ ?_
  · intro i σ' H' hi ⟨⟨y1, y2, y3, y4, y5, y6, y7, eσ⟩, xH⟩
    subst eσ
    refine ⟨.ref a, rfl, .int (0 + i), rfl, [], ns, 0 + i, kn0, ?_, by omega, by omega, hn, fun p H2 hp x2 bg => ?_⟩
    · exact .cons (hD xH) (.cons (.int _) .nil)
    have hp0 : H p = none := by
      cases z : H p with
      | none => rfl
      | some o => rw [xH _ _ z] at hp; cases hp
    have hab : p ∈ [p] := List.mem_singleton.mpr rfl
    refine ⟨8, rfl, by decide, by decide, for_range (fun k' σ'' H'' => (∃ y3 y4, σ'' = [some (.ref a), some (.int (0 + i)), some (.ref p), y3, y4, y5, y6, y7]) ∧ Ex H H'' ∧ Kn [p] H'' ∧ Bag p 0 H'') ⟨⟨y3, y4, rfl⟩, xH.trans x2, bg.kn, bg⟩ ?_ ?_⟩
    · rintro k' σ'' H3 hk' ⟨⟨y3', y4', rfl⟩, x3, kn3, b3⟩
      have tk : ∀ {σ' : L2.St} {H'' : Hp}, σ'[2]? = some (some (.ref p)) → EG K [p] p 0 0 (tCall (spTake K) [] E0 (tCons (tVar 2) (tCons (tC (.int 4)) tNil))) σ' H'' (IntB 4) := fun {_ _} h1 => eg_take hab h1 (by decide) (by decide)
      refine g_setG (K := K) (b := [p]) (a := p) (n := 0) (k := 0) (P1 := VxP 4) (eg_vxE (n := 0) (m := 0) (P1 := fun d => ∃ l : Nat, d = .int (l : Nat) ∧ 0 < l ∧ l ≤ 4) hab rfl (eg_ixL (k := 0) hab (eg_pure (P := (· = .list [.int 4, .int 2, .int 3, .int 2])) (fun H1 x1 kn1 => ed_lst kn1 (ea_cons ed_int (ea_cons ed_int (ea_cons ed_int (ea_cons ed_int ea_nil)))) (by decide)) rfl) (tk rfl) ?_) fun d h => h) kn3 b3 fun v d H4 x4 b4 kn4 hv ⟨vx, ed, vok, vdp⟩ => ?_
      · rintro d e rfl hi'
        obtain ⟨j', z, rfl, hz, hm⟩ := intB_at (ds := [.int 4, .int 2, .int 3, .int 2]) hi' (by decide)
        refine ⟨_, j', z, rfl, rfl, hz, ?_⟩
        simp only [List.mem_cons, List.not_mem_nil, or_false] at hm
        rcases hm with rfl | rfl | rfl | rfl
        · exact ⟨4, rfl, by decide, by decide⟩
        · exact ⟨2, rfl, by decide, by decide⟩
        · exact ⟨3, rfl, by decide, by decide⟩
        · exact ⟨2, rfl, by decide, by decide⟩
      subst ed
      have eg : EG K [p] p 0 0 (tCall (spG K 0 (· = []) fun _ d => WthD d) [] E0 (tCons (tVar 2) tNil)) [some (V.ref a), some (.int (0 + i)), some (.ref p), some (.int (0 + k')), some v, y5, y6, y7] H4 WthD := eg_call (c := 0) (S := (· = [])) hab rfl ega_nil (fun _ e => e) fun _ _ _ z => z
      refine ⟨v, rfl, eg H4 (ExB.refl p H4) kn4 b4 _ fun v5 d5 H5 x5 b5 hv5 ⟨x0, ex, wx⟩ => ?_⟩
      subst ex
      refine ⟨[p], vx, x0, x5.kn kn4 b5, .cons (Dq.upB hab hv x5) (.cons hv5 .nil), vok, vdp, wx, fun H6 x6 => ⟨true, rfl, ?_⟩⟩
      show ite (false = true) _ _
      rw [if_neg Bool.false_ne_true]
      exact ⟨⟨_, _, rfl⟩, (ex_exb hp0 (ex_exb hp0 x3 x4) x5).trans x6, (x5.kn kn4 b5).up x6, b5.ex x6⟩
    · rintro σ'' H3 ⟨⟨y3', y4', rfl⟩, x3, kn3, b3⟩
      exact ⟨⟨_, _, _, _, _, _, _, rfl⟩, x3⟩
  · rintro σ' H1 ⟨⟨y1, y2, y3, y4, y5, y6, y7, rfl⟩, xH⟩
    have l3 : (3 : Nat) ≤ sizeLine := by rw [hsl]; decide
    have l0 : (0 : Nat) ≤ sizeLine := Nat.zero_le _
    have l1 : (1 : Nat) ≤ sizeLine := by rw [hsl]; decide
    have l2 : (2 : Nat) ≤ sizeLine := by rw [hsl]; decide
    have pw : ∀ {σ'} {H'}, ED K [] (tOp (rI CPow fun i j => .int (i ^ j.toNat)) (tC (.int 10)) (tC (.int 12))) σ' H' (.int 1000000000000) := fun {_ _} => ed_I (C := CPow) (g := fun i j => .int (i ^ j.toNat)) (ed_int (i := 10)) (ed_int (i := 12)) ⟨by decide, by decide, by decide⟩ fun _ => .int _
    have ea : EA K [] _ [some (.ref a), y1, y2, y3, y4, y5, y6, y7] H1 (triples.map trD) := ea_cons (ed_tup kn0 (ea_cons ed_int (ea_cons (ed_neg ed_int) (ea_cons (ed_neg ed_int) ea_nil))) l3) (ea_cons (ed_tup kn0 (ea_cons (ed_neg ed_int) (ea_cons ed_int (ea_cons (ed_neg ed_int) ea_nil))) l3) (ea_cons (ed_tup kn0 (ea_cons (ed_neg ed_int) (ea_cons (ed_neg ed_int) (ea_cons ed_int ea_nil))) l3) (ea_cons (ed_tup kn0 (ea_cons ed_int (ea_cons (ed_neg ed_int) (ea_cons ed_int ea_nil))) l3) (ea_cons (ed_tup kn0 (ea_cons pw (ea_cons (ed_neg ed_int) (ea_cons (ed_neg pw) ea_nil))) l3) ea_nil))))
    refine g_forL ea (by rw [hsl]; decide) fun pT vs H3 x3 hpT' hvsT => ?_
    refine for_list (xs := vs) (Pv := fun k' σ'' H'' => (∃ y5 y6 y7, σ'' = [some (.ref a), y1, y2, y3, y4, y5, y6, y7]) ∧ Ex H3 H'') ⟨⟨y5, y6, y7, rfl⟩, Ex.refl _⟩ (fun k' σ'' H'' _ pp => .inl (.inl (pp.2 _ _ hpT'))) ?_ ?_
    · rintro k' x σ'' H4 hx ⟨⟨z5, z6, z7, rfl⟩, x4⟩
      obtain ⟨d, hdk, dd⟩ := dps_at hvsT hx
      rw [List.getElem?_map] at hdk
      cases hz : triples[k']? with
      | none => rw [hz] at hdk; cases hdk
      | some t =>
      rw [hz] at hdk
      have e1 : trD t = d := Option.some.inj hdk
      subst e1
      have hm := List.mem_of_getElem? hz
      obtain ⟨to, tok⟩ := tri_out t hm
      have dd4 : Dq K [] H4 x (trD t) := Dq.up dd x4
      cases dd4 with
      | tup h1 _ h2 =>
      cases h2 with
      | cons p1 h2 =>
      cases h2 with
      | cons p2 h2 =>
      cases h2 with
      | cons p3 h2 =>
      cases h2
      cases p1
      cases p2
      cases p3
      refine ⟨_, _, rfl, ex_t hid_le h1, rfl, _, _, rfl, _, _, rfl, _, _, rfl, rfl, ?_⟩
      have e5 : ∀ {H'}, ED K [] (tVar 5) [some (V.ref a), y1, y2, y3, y4, some (.int t.1), some (.int t.2.1), some (.int t.2.2)] H' (.int t.1) := fun {_} => ed_var rfl (.int _)
      have e6 : ∀ {H'}, ED K [] (tVar 6) [some (V.ref a), y1, y2, y3, y4, some (.int t.1), some (.int t.2.1), some (.int t.2.2)] H' (.int t.2.1) := fun {_} => ed_var rfl (.int _)
      have e7 : ∀ {H'}, ED K [] (tVar 7) [some (V.ref a), y1, y2, y3, y4, some (.int t.1), some (.int t.2.1), some (.int t.2.2)] H' (.int t.2.2) := fun {_} => ed_var rfl (.int _)
      have me := ed_me0 (K := K) (b := []) (H := H4) (xs := sxT t) (E := E0) kn0 hT0 (ea_cons (ed_tup kn0 (ea_cons (ed_tup kn0 (ea_cons ed_str (ea_cons (ed_tup kn0 ea_nil l0) (ea_cons (ed_tup kn0 (ea_cons (ed_tup kn0 (ea_cons ed_str (ea_cons (ed_tup kn0 (ea_cons ed_str (ea_cons e5 (ea_cons e6 ea_nil))) l3) ea_nil)) l2) ea_nil) l1) ea_nil))) l3) ea_nil) l1) (ea_cons ed_str ea_nil)) ⟨tok, by show 1 ≤ 6; decide, by show 1 ≤ 60; decide⟩
      rw [to] at me
      have tt := et_t (ed_ne me (ed_tup kn0 (ea_cons (ed_tup kn0 ea_nil l0) (ea_cons (ed_tup kn0 (ea_cons ed_str (ea_cons e7 ea_nil)) l2) ea_nil)) l2) (dueT_sh _) (dueT_sh t.2.2))
      rw [show PyData.eqv (dueT t.2.2) (.tuple [.tuple [], .tuple [.str "back", .int t.2.2]]) = true from dueT_eq _] at tt
      refine tt H4 (Ex.refl H4) _ fun H5 x5 => ?_
      show ite (false = true) _ _
      rw [if_neg Bool.false_ne_true]
      exact gnext ⟨⟨_, _, _, rfl⟩, x4.trans x5⟩
    · rintro σ'' H4 ⟨⟨z5, z6, z7, rfl⟩, x4⟩
      exact q H4
end
end Wr

set_option Elab.async false
set_option linter.all false
set_option maxRecDepth 100000
set_option maxHeartbeats 4000000
namespace Wr
open PySem PySem.Spec PyProof.Rows L2 Evl
theorem def_mk {K : PySem.W.Frag} {h : Heap} {mg : Str → Option Value} {x : Str} {st : Stmt} {ps : List Str} {f : Addr} {oc : Value} {od an : Option Addr} {osl : Array (Option Value)} {kV doc pm cdv ct : Value} (X : K.In h) (G : h.Ns mainGlobals mg)
    (a : PySem.W.nsIn K mainGlobals x = some (some (.ref f))) (l : K.lookup f = some ⟨oc, od, .func (PySem.W.fnOf x x (defArgs st) (defBody st) (defScope st) .none kV doc pm an cdv ct), osl⟩) (c : PySem.W.codeIn K cdv x = true) (k : PySem.W.keepIn K (.ref f) = true)
    (hb : ∀ (kV doc pm : Value) (an : Option Addr) (cdv ct : Value) (us : List Value), us.length = ps.length → bindArgs (PySem.W.fnOf x x (defArgs st) (defBody st) (defScope st) .none kV doc pm an cdv ct) ⟨us, []⟩ = pure (ps.zip us)) :
    Def K mg x st ps f (PySem.W.fnOf x x (defArgs st) (defBody st) (defScope st) .none kV doc pm an cdv ct) :=
  ⟨fun_mk (st := st) l c k, (fun_mk (st := st) l c k).binds hb, PySem.W.mg_of X G a⟩
theorem word_tup {K : PySem.W.Frag} {a : Addr} {n : Nat} {its : List Value} {xs : List V} (l : K.lookup a = some ⟨.type "tuple", none, .seq its.toArray n, #[]⟩) (hz : its.length ≤ 1000) (r : Vals xs its) : ∀ H, SqT K H a xs ∧ TN K H a := fun H =>
  ⟨.inr ⟨_, its.toArray, n, l, rfl, rfl, by rw [List.size_toArray]; exact Nat.le_trans hz (by decide), by simpa using r⟩, .inr ⟨_, l, rfl, rfl⟩⟩

theorem exm_self {K : PySem.W.Frag} {S : Addr} (h1 : PySem.W.subIn K (.ref S) (.type "BaseException") = some true) (h2 : PySem.W.isClsIn K S = true) (h3 : PySem.W.typeIn K (.ref S) = some (.type "type")) (h4 : PySem.W.subIn K (.ref S) (.ref S) = some true) :
    PySem.W.exmOne K (.ref S) (.ref S) = some true := by
  have e1 : (PySem.W.subIn K (.ref S) (.type "BaseException") == some true) = true := by rw [h1] <;> rfl
  have e2 : ((PySem.W.clsIn K S).isSome && PySem.W.typeIn K (.ref S) == some (.type "type")) = true := by
    have h2' : (PySem.W.clsIn K S).isSome = true := h2
    rw [h2', h3] <;> rfl
  have e3 : PySem.W.kitCls K (.ref S) (.ref S) = some true := by
    unfold PySem.W.kitCls
    exact (if_pos e2).trans h4
  unfold PySem.W.exmOne
  exact (if_pos e1).trans e3
theorem all_mk {l : PySem.W.OpenLaw} {w : World} {K : PySem.W.Frag} {h : Heap} {mg : Str → Option Value} {fa CF fI CT fm Td T0 Dk f1 f2 f3 f4 f5 f6 f7 f8 f9 f10 f11 f12 e1 e2 e3 e4 e5 e6 e7 e8 : Addr} (X : K.In h) (G : h.Ns mainGlobals mg) (hfa : mg "law" = some (.ref fa))
    {nm q : Str} {Nn : Addr} {bs : List Value} {sn : List Str} {sub : List Value} {ab : Bool} {col : Option Bool} {dd : Option Addr} {mm0 mm1 mm2 mm3 mm5 : Option Value}
    {odI anI : Option Addr} {slI : Array (Option Value)} {ocI kVI dcI pmI cdI ctI : Value}
    (aC : PySem.W.nsIn K mainGlobals "Fault" = some (some (.ref CF)))
    (xL : K.lookup CF = some (excClassObj nm q CF Nn bs exTail true sn sub ab col dd mm0 mm1 mm2 mm3 mm5 "Exception.__new__"))
    (sa : PySem.W.findIn K (.ref CF) "__setattr__" = some (some (.builtin "object.__setattr__"))) (ga : PySem.W.findIn K (.ref CF) "__getattribute__" = some (some (.builtin "BaseException.__getattribute__"))) (gg : PySem.W.findIn K (.ref CF) "__getattr__" = some none) (nb : PySem.W.findIn K (.ref CF) "number" = some none)
    (aI : PySem.W.findIn K (.ref CF) "__init__" = some (some (.ref fI))) (tI : PySem.W.typeIn K (.ref fI) = some (.type "function"))
    (lI : K.lookup fI = some ⟨ocI, odI, .func (PySem.W.fnOf "__init__" "Fault.__init__" (defArgs s_fti) (defBody s_fti) (defScope s_fti) .none kVI dcI pmI anI cdI ctI), slI⟩) (cI : PySem.W.codeIn K cdI "Fault.__init__" = true) (kI : PySem.W.keepIn K (.ref fI) = true)
    (kC : PySem.W.keepIn K (.ref CF) = true) (eC : PySem.W.subIn K (.ref CF) (.type "BaseException") = some true) (tC : PySem.W.typeIn K (.ref CF) = some (.type "type")) (hC : PySem.W.hasDictIn K CF = true) (iC : PySem.W.isClsIn K CF = true) (sC : PySem.W.subIn K (.ref CF) (.ref CF) = some true)
    (vC : PySem.W.findCls K (.type "Exception") (.type "type") "__init__" = some (.val (.builtin "Exception.__init__")))
    (aT : PySem.W.nsIn K mainGlobals "Telling" = some (some (.ref CT))) (pT : PySem.W.plainGet K CT Str.empty = true) (hT : PySem.W.hasDictIn K CT = true) (oT : PySem.W.plainOver K CT = true) (sT : PySem.W.findIn K (.ref CT) "__setattr__" = some (some (.builtin "object.__setattr__")))
    (nT : PySem.W.findIn K (.ref CT) "tuples" = some none) (nL : PySem.W.findIn K (.ref CT) "left" = some none) (nS : PySem.W.findIn K (.ref CT) "spoken" = some none) (mT : PySem.W.makesIn K CT = true) (kT : PySem.W.keepIn K (.ref CT) = true)
    {odM anM : Option Addr} {slM : Array (Option Value)} {ocM dcM pmM cdM ctM : Value} {nTd nT0 : Nat} {tM : Tok}
    (aM : PySem.W.nsIn K mainGlobals "meant" = some (some (.ref fm))) (lM : K.lookup fm = some ⟨ocM, odM, .func (PySem.W.fnOf "meant" "meant" (defArgs s_me) (defBody s_me) (defScope s_me) (.ref Td) (.ref Dk) dcM pmM anM cdM ctM), slM⟩) (cM : PySem.W.codeIn K cdM "meant" = true) (kM : PySem.W.keepIn K (.ref fm) = true)
    (lTd : K.lookup Td = some ⟨.type "tuple", none, .seq (#[.ref T0]) nTd, #[]⟩) (lT0 : K.lookup T0 = some ⟨.type "tuple", none, .seq (#[]) nT0, #[]⟩) (lDk : PySem.W.nsIn K Dk "most" = some (some (.int 60 tM)))
    {od1 an1 : Option Addr} {sl1 : Array (Option Value)} {oc1 kV1 dc1 pm1 cd1 ct1 : Value}
    (a1 : PySem.W.nsIn K mainGlobals "is_whole" = some (some (.ref f1))) (l1 : K.lookup f1 = some ⟨oc1, od1, .func (PySem.W.fnOf "is_whole" "is_whole" (defArgs s_is_whole) (defBody s_is_whole) (defScope s_is_whole) .none kV1 dc1 pm1 an1 cd1 ct1), sl1⟩) (c1 : PySem.W.codeIn K cd1 "is_whole" = true) (k1 : PySem.W.keepIn K (.ref f1) = true)
    {od2 an2 : Option Addr} {sl2 : Array (Option Value)} {oc2 kV2 dc2 pm2 cd2 ct2 : Value}
    (a2 : PySem.W.nsIn K mainGlobals "is_worth" = some (some (.ref f2))) (l2 : K.lookup f2 = some ⟨oc2, od2, .func (PySem.W.fnOf "is_worth" "is_worth" (defArgs s_is_worth) (defBody s_is_worth) (defScope s_is_worth) .none kV2 dc2 pm2 an2 cd2 ct2), sl2⟩) (c2 : PySem.W.codeIn K cd2 "is_worth" = true) (k2 : PySem.W.keepIn K (.ref f2) = true)
    {od3 an3 : Option Addr} {sl3 : Array (Option Value)} {oc3 kV3 dc3 pm3 cd3 ct3 : Value}
    (a3 : PySem.W.nsIn K mainGlobals "op_outcome" = some (some (.ref f3))) (l3 : K.lookup f3 = some ⟨oc3, od3, .func (PySem.W.fnOf "op_outcome" "op_outcome" (defArgs s_oo) (defBody s_oo) (defScope s_oo) .none kV3 dc3 pm3 an3 cd3 ct3), sl3⟩) (c3 : PySem.W.codeIn K cd3 "op_outcome" = true) (k3 : PySem.W.keepIn K (.ref f3) = true)
    {od4 an4 : Option Addr} {sl4 : Array (Option Value)} {oc4 kV4 dc4 pm4 cd4 ct4 : Value}
    (a4 : PySem.W.nsIn K mainGlobals "op_number" = some (some (.ref f4))) (l4 : K.lookup f4 = some ⟨oc4, od4, .func (PySem.W.fnOf "op_number" "op_number" (defArgs s_on) (defBody s_on) (defScope s_on) .none kV4 dc4 pm4 an4 cd4 ct4), sl4⟩) (c4 : PySem.W.codeIn K cd4 "op_number" = true) (k4 : PySem.W.keepIn K (.ref f4) = true)
    {od5 an5 : Option Addr} {sl5 : Array (Option Value)} {oc5 kV5 dc5 pm5 cd5 ct5 : Value}
    (a5 : PySem.W.nsIn K mainGlobals "_law_bag" = some (some (.ref f5))) (l5 : K.lookup f5 = some ⟨oc5, od5, .func (PySem.W.fnOf "_law_bag" "_law_bag" (defArgs s_bag) (defBody s_bag) (defScope s_bag) .none kV5 dc5 pm5 an5 cd5 ct5), sl5⟩) (c5 : PySem.W.codeIn K cd5 "_law_bag" = true) (k5 : PySem.W.keepIn K (.ref f5) = true)
    {od6 an6 : Option Addr} {sl6 : Array (Option Value)} {oc6 kV6 dc6 pm6 cd6 ct6 : Value}
    (a6 : PySem.W.nsIn K mainGlobals "_law_take" = some (some (.ref f6))) (l6 : K.lookup f6 = some ⟨oc6, od6, .func (PySem.W.fnOf "_law_take" "_law_take" (defArgs s_take) (defBody s_take) (defScope s_take) .none kV6 dc6 pm6 an6 cd6 ct6), sl6⟩) (c6 : PySem.W.codeIn K cd6 "_law_take" = true) (k6 : PySem.W.keepIn K (.ref f6) = true)
    {od7 an7 : Option Addr} {sl7 : Array (Option Value)} {oc7 kV7 dc7 pm7 cd7 ct7 : Value}
    (a7 : PySem.W.nsIn K mainGlobals "_law_edge" = some (some (.ref f7))) (l7 : K.lookup f7 = some ⟨oc7, od7, .func (PySem.W.fnOf "_law_edge" "_law_edge" (defArgs s_edge) (defBody s_edge) (defScope s_edge) .none kV7 dc7 pm7 an7 cd7 ct7), sl7⟩) (c7 : PySem.W.codeIn K cd7 "_law_edge" = true) (k7 : PySem.W.keepIn K (.ref f7) = true)
    {od8 an8 : Option Addr} {sl8 : Array (Option Value)} {oc8 kV8 dc8 pm8 cd8 ct8 : Value}
    (a8 : PySem.W.nsIn K mainGlobals "_law_value" = some (some (.ref f8))) (l8 : K.lookup f8 = some ⟨oc8, od8, .func (PySem.W.fnOf "_law_value" "_law_value" (defArgs s_val) (defBody s_val) (defScope s_val) .none kV8 dc8 pm8 an8 cd8 ct8), sl8⟩) (c8 : PySem.W.codeIn K cd8 "_law_value" = true) (k8 : PySem.W.keepIn K (.ref f8) = true)
    {od9 an9 : Option Addr} {sl9 : Array (Option Value)} {oc9 kV9 dc9 pm9 cd9 ct9 : Value}
    (a9 : PySem.W.nsIn K mainGlobals "_law_floor" = some (some (.ref f9))) (l9 : K.lookup f9 = some ⟨oc9, od9, .func (PySem.W.fnOf "_law_floor" "_law_floor" (defArgs s_flo) (defBody s_flo) (defScope s_flo) .none kV9 dc9 pm9 an9 cd9 ct9), sl9⟩) (c9 : PySem.W.codeIn K cd9 "_law_floor" = true) (k9 : PySem.W.keepIn K (.ref f9) = true)
    {od10 an10 : Option Addr} {sl10 : Array (Option Value)} {oc10 kV10 dc10 pm10 cd10 ct10 : Value}
    (a10 : PySem.W.nsIn K mainGlobals "_law_come_to" = some (some (.ref f10))) (l10 : K.lookup f10 = some ⟨oc10, od10, .func (PySem.W.fnOf "_law_come_to" "_law_come_to" (defArgs s_cm) (defBody s_cm) (defScope s_cm) .none kV10 dc10 pm10 an10 cd10 ct10), sl10⟩) (c10 : PySem.W.codeIn K cd10 "_law_come_to" = true) (k10 : PySem.W.keepIn K (.ref f10) = true)
    {od11 an11 : Option Addr} {sl11 : Array (Option Value)} {oc11 kV11 dc11 pm11 cd11 ct11 : Value}
    (a11 : PySem.W.nsIn K mainGlobals "_law_right" = some (some (.ref f11))) (l11 : K.lookup f11 = some ⟨oc11, od11, .func (PySem.W.fnOf "_law_right" "_law_right" (defArgs s_rt) (defBody s_rt) (defScope s_rt) .none kV11 dc11 pm11 an11 cd11 ct11), sl11⟩) (c11 : PySem.W.codeIn K cd11 "_law_right" = true) (k11 : PySem.W.keepIn K (.ref f11) = true)
    {od12 an12 : Option Addr} {sl12 : Array (Option Value)} {oc12 kV12 dc12 pm12 cd12 ct12 : Value}
    (a12 : PySem.W.nsIn K mainGlobals "law" = some (some (.ref f12))) (l12 : K.lookup f12 = some ⟨oc12, od12, .func (PySem.W.fnOf "law" "law" (defArgs s_law) (defBody s_law) (defScope s_law) .none kV12 dc12 pm12 an12 cd12 ct12), sl12⟩) (c12 : PySem.W.codeIn K cd12 "law" = true) (k12 : PySem.W.keepIn K (.ref f12) = true)
    {wod1 wan1 : Option Addr} {wsl1 : Array (Option Value)} {woc1 wkV1 wdc1 wpm1 wcd1 wct1 : Value}
    (wa1 : PySem.W.findIn K (.ref CT) "__init__" = some (some (.ref e1))) (wl1 : K.lookup e1 = some ⟨woc1, wod1, .func (PySem.W.fnOf "__init__" "Telling.__init__" (defArgs s_in) (defBody s_in) (defScope s_in) .none wkV1 wdc1 wpm1 wan1 wcd1 wct1), wsl1⟩) (wc1 : PySem.W.codeIn K wcd1 "Telling.__init__" = true) (wk1 : PySem.W.keepIn K (.ref e1) = true) (wf1 : PySem.W.isFn K (.ref e1) = true)
    {wod2 wan2 : Option Addr} {wsl2 : Array (Option Value)} {woc2 wkV2 wdc2 wpm2 wcd2 wct2 : Value}
    (wa2 : PySem.W.findIn K (.ref CT) "end_of" = some (some (.ref e2))) (wl2 : K.lookup e2 = some ⟨woc2, wod2, .func (PySem.W.fnOf "end_of" "Telling.end_of" (defArgs s_eo) (defBody s_eo) (defScope s_eo) .none wkV2 wdc2 wpm2 wan2 wcd2 wct2), wsl2⟩) (wc2 : PySem.W.codeIn K wcd2 "Telling.end_of" = true) (wk2 : PySem.W.keepIn K (.ref e2) = true) (wf2 : PySem.W.isFn K (.ref e2) = true)
    {wod3 wan3 : Option Addr} {wsl3 : Array (Option Value)} {woc3 wkV3 wdc3 wpm3 wcd3 wct3 : Value}
    (wa3 : PySem.W.findIn K (.ref CT) "given_back" = some (some (.ref e3))) (wl3 : K.lookup e3 = some ⟨woc3, wod3, .func (PySem.W.fnOf "given_back" "Telling.given_back" (defArgs s_gb) (defBody s_gb) (defScope s_gb) .none wkV3 wdc3 wpm3 wan3 wcd3 wct3), wsl3⟩) (wc3 : PySem.W.codeIn K wcd3 "Telling.given_back" = true) (wk3 : PySem.W.keepIn K (.ref e3) = true) (wf3 : PySem.W.isFn K (.ref e3) = true)
    {wod4 wan4 : Option Addr} {wsl4 : Array (Option Value)} {woc4 wkV4 wdc4 wpm4 wcd4 wct4 : Value}
    (wa4 : PySem.W.findIn K (.ref CT) "go_through" = some (some (.ref e4))) (wl4 : K.lookup e4 = some ⟨woc4, wod4, .func (PySem.W.fnOf "go_through" "Telling.go_through" (defArgs s_gt) (defBody s_gt) (defScope s_gt) .none wkV4 wdc4 wpm4 wan4 wcd4 wct4), wsl4⟩) (wc4 : PySem.W.codeIn K wcd4 "Telling.go_through" = true) (wk4 : PySem.W.keepIn K (.ref e4) = true) (wf4 : PySem.W.isFn K (.ref e4) = true)
    {wod5 wan5 : Option Addr} {wsl5 : Array (Option Value)} {woc5 wkV5 wdc5 wpm5 wcd5 wct5 : Value}
    (wa5 : PySem.W.findIn K (.ref CT) "go_through_one" = some (some (.ref e5))) (wl5 : K.lookup e5 = some ⟨woc5, wod5, .func (PySem.W.fnOf "go_through_one" "Telling.go_through_one" (defArgs s_g1) (defBody s_g1) (defScope s_g1) .none wkV5 wdc5 wpm5 wan5 wcd5 wct5), wsl5⟩) (wc5 : PySem.W.codeIn K wcd5 "Telling.go_through_one" = true) (wk5 : PySem.W.keepIn K (.ref e5) = true) (wf5 : PySem.W.isFn K (.ref e5) = true)
    {wod6 wan6 : Option Addr} {wsl6 : Array (Option Value)} {woc6 wkV6 wdc6 wpm6 wcd6 wct6 : Value}
    (wa6 : PySem.W.findIn K (.ref CT) "go_through_try" = some (some (.ref e6))) (wl6 : K.lookup e6 = some ⟨woc6, wod6, .func (PySem.W.fnOf "go_through_try" "Telling.go_through_try" (defArgs s_ty) (defBody s_ty) (defScope s_ty) .none wkV6 wdc6 wpm6 wan6 wcd6 wct6), wsl6⟩) (wc6 : PySem.W.codeIn K wcd6 "Telling.go_through_try" = true) (wk6 : PySem.W.keepIn K (.ref e6) = true) (wf6 : PySem.W.isFn K (.ref e6) = true)
    {wod7 wan7 : Option Addr} {wsl7 : Array (Option Value)} {woc7 wkV7 wdc7 wpm7 wcd7 wct7 : Value}
    (wa7 : PySem.W.findIn K (.ref CT) "count_one" = some (some (.ref e7))) (wl7 : K.lookup e7 = some ⟨woc7, wod7, .func (PySem.W.fnOf "count_one" "Telling.count_one" (defArgs s_co) (defBody s_co) (defScope s_co) .none wkV7 wdc7 wpm7 wan7 wcd7 wct7), wsl7⟩) (wc7 : PySem.W.codeIn K wcd7 "Telling.count_one" = true) (wk7 : PySem.W.keepIn K (.ref e7) = true) (wf7 : PySem.W.isFn K (.ref e7) = true)
    {wod8 wan8 : Option Addr} {wsl8 : Array (Option Value)} {woc8 wkV8 wdc8 wpm8 wcd8 wct8 : Value}
    (wa8 : PySem.W.findIn K (.ref CT) "worth_of" = some (some (.ref e8))) (wl8 : K.lookup e8 = some ⟨woc8, wod8, .func (PySem.W.fnOf "worth_of" "Telling.worth_of" (defArgs s_wo) (defBody s_wo) (defScope s_wo) .none wkV8 wdc8 wpm8 wan8 wcd8 wct8), wsl8⟩) (wc8 : PySem.W.codeIn K wcd8 "Telling.worth_of" = true) (wk8 : PySem.W.keepIn K (.ref e8) = true) (wf8 : PySem.W.isFn K (.ref e8) = true)
    {t1 : Tok} (m1 : PySem.W.nsIn K mainGlobals "MOST_WORTH" = some (some (.int 1000000000000 t1)))
    {t2 : Tok} (m2 : PySem.W.nsIn K mainGlobals "OVER_BY_NOUGHT" = some (some (.int (-1) t2)))
    {t3 : Tok} (m3 : PySem.W.nsIn K mainGlobals "NO_WORTH" = some (some (.int (-2) t3)))
    {t4 : Tok} (m4 : PySem.W.nsIn K mainGlobals "NOT_SET" = some (some (.int (-3) t4)))
    (z1 : PySem.W.nsIn K mainGlobals "isinstance" = some none)
    (z2 : PySem.W.nsIn K mainGlobals "len" = some none)
    (z3 : PySem.W.nsIn K mainGlobals "all" = some none)
    (z4 : PySem.W.nsIn K mainGlobals "enumerate" = some none)
    (z5 : PySem.W.nsIn K mainGlobals "set" = some none)
    (z6 : PySem.W.nsIn K mainGlobals "int" = some none)
    (z7 : PySem.W.nsIn K mainGlobals "bool" = some none)
    (z8 : PySem.W.nsIn K mainGlobals "str" = some none)
    (z9 : PySem.W.nsIn K mainGlobals "tuple" = some none)
    (z10 : PySem.W.nsIn K mainGlobals "list" = some none)
    (z11 : PySem.W.nsIn K mainGlobals "range" = some none)
    (z12 : PySem.W.nsIn K mainGlobals "abs" = some none)
    (z13 : PySem.W.nsIn K mainGlobals "max" = some none)
    (z14 : PySem.W.nsIn K mainGlobals "min" = some none)
    (z15 : PySem.W.nsIn K mainGlobals "repr" = some none)
    (z16 : PySem.W.nsIn K mainGlobals "zip" = some none)
    (z17 : PySem.W.nsIn K mainGlobals "Exception" = some none)
    : ∃ fd : FuncData, (∀ (s : Shared) (v : Value), BindsTo s fd ⟨[v], []⟩ [("_law_script", v)]) ∧ ∀ base : Heap, K.In base → base.Ns mainGlobals mg → FnG l.prog w K mg base 18 fa fd ["_law_script"] (spLaw K) := by
  have e := hfa.symm.trans (PySem.W.mg_of X G a12)
  cases e
  have D1 := def_mk (st := s_is_whole) (ps := ["thing"]) X G a1 l1 c1 k1 fun _ _ _ _ _ _ us hl => match us, hl with | [_], _ => rfl
  have D2 := def_mk (st := s_is_worth) (ps := ["thing"]) X G a2 l2 c2 k2 fun _ _ _ _ _ _ us hl => match us, hl with | [_], _ => rfl
  have D3 := def_mk (st := s_oo) (ps := ["op", "one", "other"]) X G a3 l3 c3 k3 fun _ _ _ _ _ _ us hl => match us, hl with | [_, _, _], _ => rfl
  have D4 := def_mk (st := s_on) (ps := ["op", "one", "other"]) X G a4 l4 c4 k4 fun _ _ _ _ _ _ us hl => match us, hl with | [_, _, _], _ => rfl
  have D5 := def_mk (st := s_bag) (ps := ["_law_script", "_law_at"]) X G a5 l5 c5 k5 fun _ _ _ _ _ _ us hl => match us, hl with | [_, _], _ => rfl
  have D6 := def_mk (st := s_take) (ps := ["_law_bag_here", "_law_many"]) X G a6 l6 c6 k6 fun _ _ _ _ _ _ us hl => match us, hl with | [_, _], _ => rfl
  have D7 := def_mk (st := s_edge) (ps := ["_law_bag_here"]) X G a7 l7 c7 k7 fun _ _ _ _ _ _ us hl => match us, hl with | [_], _ => rfl
  have D8 := def_mk (st := s_val) (ps := ["_law_bag_here", "_law_deep"]) X G a8 l8 c8 k8 fun _ _ _ _ _ _ us hl => match us, hl with | [_, _], _ => rfl
  have D9 := def_mk (st := s_flo) (ps := ["_law_one", "_law_other"]) X G a9 l9 c9 k9 fun _ _ _ _ _ _ us hl => match us, hl with | [_, _], _ => rfl
  have D10 := def_mk (st := s_cm) (ps := ["_law_value_here", "_law_x"]) X G a10 l10 c10 k10 fun _ _ _ _ _ _ us hl => match us, hl with | [_, _], _ => rfl
  have D11 := def_mk (st := s_rt) (ps := ["_law_value_here", "_law_x"]) X G a11 l11 c11 k11 fun _ _ _ _ _ _ us hl => match us, hl with | [_, _], _ => rfl
  have D12 := def_mk (st := s_law) (ps := ["_law_script"]) X G a12 l12 c12 k12 fun _ _ _ _ _ _ us hl => match us, hl with | [_], _ => rfl
  have B : Blt mg := ⟨PySem.W.mg_none_of X G z1, PySem.W.mg_none_of X G z2, PySem.W.mg_none_of X G z3, PySem.W.mg_none_of X G z4, PySem.W.mg_none_of X G z5, PySem.W.mg_none_of X G z6, PySem.W.mg_none_of X G z7, PySem.W.mg_none_of X G z8, PySem.W.mg_none_of X G z9, PySem.W.mg_none_of X G z10, PySem.W.mg_none_of X G z11⟩
  have B2 : Blt2 mg := ⟨PySem.W.mg_none_of X G z12, PySem.W.mg_none_of X G z13, PySem.W.mg_none_of X G z14, PySem.W.mg_none_of X G z15⟩
  have zz : mg "zip" = none := PySem.W.mg_none_of X G z16
  have M1 := PySem.W.mg_of X G m1
  have M2 := PySem.W.mg_of X G m2
  have M3 := PySem.W.mg_of X G m3
  have M4 := PySem.W.mg_of X G m4
  have FI := fun_mk (st := s_fti) lI cI kI
  have TT : ExC K CF := ⟨ex_tail, ⟨nm, q, Nn, bs, sn, sub, ab, col, dd, mm0, mm1, mm2, mm3, mm5, xL⟩, sa, eC, tC, kC⟩
  have T : FtC K mg CF fI _ := ⟨TT, FI, FI.binds fun _ _ _ _ _ _ us hl => match us, hl with | [_, _], _ => rfl, PySem.W.mg_of X G aC, aI, tI, nb, vC, PySem.W.mg_none_of X G z17⟩
  have XT : XfC K CF := ⟨ga, gg, eC, hC⟩
  have te := exm_self eC iC tC sC
  have C : TlC K CT := ⟨⟨pT, hT, oT, sT⟩, nT, nL, nS⟩
  have F1 := fun_mk (st := s_in) wl1 wc1 wk1
  have b1 := F1.binds (ps := ["self", "tree", "most"]) fun _ _ _ _ _ _ us hl => match us, hl with | [_, _, _], _ => rfl
  have W1 : TmC K CT "__init__" "Telling.__init__" s_in ["self", "tree", "most"] e1 _ := ⟨⟨wa1, wf1, wk1⟩, F1, b1⟩
  have F2 := fun_mk (st := s_eo) wl2 wc2 wk2
  have b2 := F2.binds (ps := ["self", "part", "numbers"]) fun _ _ _ _ _ _ us hl => match us, hl with | [_, _, _], _ => rfl
  have W2 : TmC K CT "end_of" "Telling.end_of" s_eo ["self", "part", "numbers"] e2 _ := ⟨⟨wa2, wf2, wk2⟩, F2, b2⟩
  have F3 := fun_mk (st := s_gb) wl3 wc3 wk3
  have b3 := F3.binds (ps := ["self", "part", "numbers", "deep"]) fun _ _ _ _ _ _ us hl => match us, hl with | [_, _, _, _], _ => rfl
  have W3 : TmC K CT "given_back" "Telling.given_back" s_gb ["self", "part", "numbers", "deep"] e3 _ := ⟨⟨wa3, wf3, wk3⟩, F3, b3⟩
  have F4 := fun_mk (st := s_gt) wl4 wc4 wk4
  have b4 := F4.binds (ps := ["self", "sayings", "known", "deep"]) fun _ _ _ _ _ _ us hl => match us, hl with | [_, _, _, _], _ => rfl
  have W4 : TmC K CT "go_through" "Telling.go_through" s_gt ["self", "sayings", "known", "deep"] e4 _ := ⟨⟨wa4, wf4, wk4⟩, F4, b4⟩
  have F5 := fun_mk (st := s_g1) wl5 wc5 wk5
  have b5 := F5.binds (ps := ["self", "saying", "known", "deep"]) fun _ _ _ _ _ _ us hl => match us, hl with | [_, _, _, _], _ => rfl
  have W5 : TmC K CT "go_through_one" "Telling.go_through_one" s_g1 ["self", "saying", "known", "deep"] e5 _ := ⟨⟨wa5, wf5, wk5⟩, F5, b5⟩
  have F6 := fun_mk (st := s_ty) wl6 wc6 wk6
  have b6 := F6.binds (ps := ["self", "saying", "known", "deep"]) fun _ _ _ _ _ _ us hl => match us, hl with | [_, _, _, _], _ => rfl
  have W6 : TmC K CT "go_through_try" "Telling.go_through_try" s_ty ["self", "saying", "known", "deep"] e6 _ := ⟨⟨wa6, wf6, wk6⟩, F6, b6⟩
  have F7 := fun_mk (st := s_co) wl7 wc7 wk7
  have b7 := F7.binds (ps := ["self"]) fun _ _ _ _ _ _ us hl => match us, hl with | [_], _ => rfl
  have W7 : TmC K CT "count_one" "Telling.count_one" s_co ["self"] e7 _ := ⟨⟨wa7, wf7, wk7⟩, F7, b7⟩
  have F8 := fun_mk (st := s_wo) wl8 wc8 wk8
  have b8 := F8.binds (ps := ["self", "value", "known", "deep"]) fun _ _ _ _ _ _ us hl => match us, hl with | [_, _, _, _], _ => rfl
  have W8 : TmC K CT "worth_of" "Telling.worth_of" s_wo ["self", "value", "known", "deep"] e8 _ := ⟨⟨wa8, wf8, wk8⟩, F8, b8⟩
  have MK : Mk K CT e1 := ⟨mT, wa1, wf1, kT⟩
  have FM : FunD K "meant" "meant" (defArgs s_me) (defBody s_me) (defScope s_me) [.ref T0] [("most", .int 60)] fm _ := ⟨⟨ocM, odM, .ref Td, .ref Dk, dcM, pmM, anM, cdM, ctM, slM, rfl, lM, cM, .inr ⟨(by intro z; cases z), Td, _, [.ref T0], nTd, rfl, lTd, rfl, .cons rfl .nil⟩, .inr ⟨Dk, rfl, fun q hq => by
    rw [List.mem_singleton.mp hq]
    exact ⟨.int 60 tM, lDk, ⟨tM, rfl⟩⟩⟩⟩, kM⟩
  obtain ⟨bd, hd, hb⟩ := FM.binds (ps := ["tree", "part", "numbers", "most"]) 3 1 (by intro z; cases z) rfl (fun T D doc pm an cdv ct us its ks hu hi hk => match us, its, ks, hu, hi, hk with | [_, _, _], [_], [_], _, _, _ => ⟨_, rfl, _, _, _, _, _, _, rfl, rfl, rfl⟩) (by intro z; cases z)
  obtain ⟨bd2, hd2, hb2⟩ := FM.binds (ps := ["tree", "part", "numbers", "most"]) 2 0 (by intro z; cases z) rfl (fun T D doc pm an cdv ct us its ks hu hi hk => match us, its, ks, hu, hi, hk with | [_, _], [_], [_], _, _, _ => ⟨_, rfl, _, _, _, _, _, _, rfl, rfl, rfl⟩) (by intro z; cases z)
  have h0 : ∀ H, Dd K H (.ref T0) (.tuple []) := fun H => .tup (word_tup (its := []) lT0 (Nat.zero_le _) .nil H).1 (word_tup (its := []) lT0 (Nat.zero_le _) .nil H).2 .nil
  refine ⟨PySem.W.fnOf "law" "law" (defArgs s_law) (defBody s_law) (defScope s_law) .none kV12 dc12 pm12 an12 cd12 ct12, fun s v => .of_eq rfl, fun base _ _ => ?_⟩
  have g1 := ok_is_worth (P := l.prog) (w := w) (base := base) D2 D1 B M1
  have g2 := ok_oo D3 D4 D2 g1 M2 M3
  have g3 := ok_wo T C.c W8.at_ F8 b8 D3 g2 B M4 4
  have y0 := ok_ty (P := l.prog) (w := w) (base := base) 0 7 T te XT C W6 W4 (fnok_none fun _ _ _ _ h => h)
  have o0 := ok_g1 0 8 (by decide) T C W5 W4 (fnok_none fun _ _ _ _ h => h) W6 y0 W8 g3 W7
  have t0 := ok_gt 0 9 C W4 W5 o0
  have y1 := ok_ty 1 10 T te XT C W6 W4 t0
  have o1 := ok_g1 1 11 (by decide) T C W5 W4 (t0.mono (by decide)) W6 y1 W8 g3 W7
  have t1 := ok_gt 1 12 C W4 W5 o1
  have gb := ok_gb 13 C W3 W4 t1 zz
  have eo := ok_eo 14 T te XT C W2 W3 gb
  have me := ok_me 15 (by decide) C FM (PySem.W.mg_of X G aT) F1 b1 MK W2 eo B
  exact ok_law 16 (by decide) D12 B B2 D5 D6 D7 D8 D9 D10 D11 FM (PySem.W.mg_of X G aM) me hb hd hb2 hd2 h0 zz
theorem walkG {l : PySem.W.OpenLaw} {q : Program} {loose : List Str} {XP : (Str → Option Value) → Heap → Prop} {YP : World → Heap → Prop} {d : DefRec} {K : Params → PySem.W.Frag} (hn : l.most = some 63) (hdf : d.params.defaults = [])
    (hY : ∀ (w : World) (h : Heap), YP w h → (K w.params).In h)
    (F : ∀ (w : World) (mg : Str → Option Value) (fa : Addr) (h : Heap), (K w.params).In h → h.Ns mainGlobals mg → mg d.name = some (.ref fa) →
      ∃ fd : FuncData, (∀ (s : Shared) (u : Value), BindsTo s fd ⟨[u], []⟩ [("_law_script", u)]) ∧ ∀ base : Heap, (K w.params).In base → base.Ns mainGlobals mg → FnG l.prog w (K w.params) mg base 18 fa fd ["_law_script"] (spLaw (K w.params))) :
    PySem.W.WalkO q loose XP YP l.row.toRowW d [] (fun f vs => PySem.call f vs) :=
  Att.attach_call hn hdf fun w s₀ s₁ mg mb fa o pm cd doc a vs ns G Y ho hd hcd hmg hobj hints hlen hge => by
    have KX := hY w _ Y
    obtain ⟨fd, hb, hF⟩ := F w mg fa _ KX G.T.g hmg
    exact law_goG KX G.T.g G.T.b G.T.builtins G.T.nolimit hge hobj hints (Nat.le_trans hlen (by decide)) ⟨rfl, by decide, by decide⟩ hF hb fun H hS => ⟨a, ns, rfl, hS, by omega, fun _ => rfl⟩
end Wr

set_option Elab.async false
set_option linter.all false
open PySem PySem.W PyProof.Rows
set_option maxRecDepth 100000 in
set_option maxHeartbeats 0 in
theorem PySem.Challenge.cw_watchedrun_k12_values_reckoned_holds : PySem.Challenge.rw_watchedrun_k12_values_reckoned.Holds := by
  w_on; o_law; k_head; (case hw => w_witness2)
  k_fill
  refine Wr.walkG (l := PySem.Challenge.rw_watchedrun_k12_values_reckoned) rfl rfl (fun w h Y => PySem.W.kIn_of Y) ?F
  case F =>
    intro w mg fa h KX G hmg
    refine' Wr.all_mk KX G hmg ?aC ?xL ?sa ?ga ?gg ?nb ?aI ?tI ?lI ?cI ?kI ?kC ?eC ?tC ?hC ?iC ?sC ?vC ?aT ?pT ?hT ?oT ?sT ?nT ?nL ?nS ?mT ?kT ?aM ?lM ?cM ?kM ?lTd ?lT0 ?lDk ?a1 ?l1 ?c1 ?k1 ?a2 ?l2 ?c2 ?k2 ?a3 ?l3 ?c3 ?k3 ?a4 ?l4 ?c4 ?k4 ?a5 ?l5 ?c5 ?k5 ?a6 ?l6 ?c6 ?k6 ?a7 ?l7 ?c7 ?k7 ?a8 ?l8 ?c8 ?k8 ?a9 ?l9 ?c9 ?k9 ?a10 ?l10 ?c10 ?k10 ?a11 ?l11 ?c11 ?k11 ?a12 ?l12 ?c12 ?k12 ?wa1 ?wl1 ?wc1 ?wk1 ?wf1 ?wa2 ?wl2 ?wc2 ?wk2 ?wf2 ?wa3 ?wl3 ?wc3 ?wk3 ?wf3 ?wa4 ?wl4 ?wc4 ?wk4 ?wf4 ?wa5 ?wl5 ?wc5 ?wk5 ?wf5 ?wa6 ?wl6 ?wc6 ?wk6 ?wf6 ?wa7 ?wl7 ?wc7 ?wk7 ?wf7 ?wa8 ?wl8 ?wc8 ?wk8 ?wf8 ?m1 ?m2 ?m3 ?m4 ?z1 ?z2 ?z3 ?z4 ?z5 ?z6 ?z7 ?z8 ?z9 ?z10 ?z11 ?z12 ?z13 ?z14 ?z15 ?z16 ?z17
    (case aC => k_is)
    (case xL => k_is)
    (case sa => k_is)
    (case ga => k_is)
    (case gg => k_is)
    (case nb => k_is)
    (case aI => k_is)
    (case tI => k_is)
    (case lI => k_is)
    (case cI => k_is)
    (case kI => k_is)
    (case kC => k_is)
    (case eC => k_is)
    (case tC => k_is)
    (case hC => k_is)
    (case iC => k_is)
    (case sC => first | rfl | k_is)
    (case vC => k_is)
    (case aT => k_is)
    (case pT => k_is)
    (case hT => k_is)
    (case oT => k_is)
    (case sT => k_is)
    (case nT => k_is)
    (case nL => k_is)
    (case nS => k_is)
    (case mT => k_is)
    (case kT => k_is)
    (case aM => k_is)
    (case lM => k_is)
    (case cM => k_is)
    (case kM => k_is)
    (case lTd => k_is)
    (case lT0 => k_is)
    (case lDk => k_is)
    (case a1 => k_is)
    (case l1 => k_is)
    (case c1 => k_is)
    (case k1 => k_is)
    (case a2 => k_is)
    (case l2 => k_is)
    (case c2 => k_is)
    (case k2 => k_is)
    (case a3 => k_is)
    (case l3 => k_is)
    (case c3 => k_is)
    (case k3 => k_is)
    (case a4 => k_is)
    (case l4 => k_is)
    (case c4 => k_is)
    (case k4 => k_is)
    (case a5 => k_is)
    (case l5 => k_is)
    (case c5 => k_is)
    (case k5 => k_is)
    (case a6 => k_is)
    (case l6 => k_is)
    (case c6 => k_is)
    (case k6 => k_is)
    (case a7 => k_is)
    (case l7 => k_is)
    (case c7 => k_is)
    (case k7 => k_is)
    (case a8 => k_is)
    (case l8 => k_is)
    (case c8 => k_is)
    (case k8 => k_is)
    (case a9 => k_is)
    (case l9 => k_is)
    (case c9 => k_is)
    (case k9 => k_is)
    (case a10 => k_is)
    (case l10 => k_is)
    (case c10 => k_is)
    (case k10 => k_is)
    (case a11 => k_is)
    (case l11 => k_is)
    (case c11 => k_is)
    (case k11 => k_is)
    (case a12 => k_is)
    (case l12 => k_is)
    (case c12 => k_is)
    (case k12 => k_is)
    (case wa1 => k_is)
    (case wl1 => k_is)
    (case wc1 => k_is)
    (case wk1 => k_is)
    (case wf1 => k_is)
    (case wa2 => k_is)
    (case wl2 => k_is)
    (case wc2 => k_is)
    (case wk2 => k_is)
    (case wf2 => k_is)
    (case wa3 => k_is)
    (case wl3 => k_is)
    (case wc3 => k_is)
    (case wk3 => k_is)
    (case wf3 => k_is)
    (case wa4 => k_is)
    (case wl4 => k_is)
    (case wc4 => k_is)
    (case wk4 => k_is)
    (case wf4 => k_is)
    (case wa5 => k_is)
    (case wl5 => k_is)
    (case wc5 => k_is)
    (case wk5 => k_is)
    (case wf5 => k_is)
    (case wa6 => k_is)
    (case wl6 => k_is)
    (case wc6 => k_is)
    (case wk6 => k_is)
    (case wf6 => k_is)
    (case wa7 => k_is)
    (case wl7 => k_is)
    (case wc7 => k_is)
    (case wk7 => k_is)
    (case wf7 => k_is)
    (case wa8 => k_is)
    (case wl8 => k_is)
    (case wc8 => k_is)
    (case wk8 => k_is)
    (case wf8 => k_is)
    (case m1 => k_is)
    (case m2 => k_is)
    (case m3 => k_is)
    (case m4 => k_is)
    (case z1 => k_is)
    (case z2 => k_is)
    (case z3 => k_is)
    (case z4 => k_is)
    (case z5 => k_is)
    (case z6 => k_is)
    (case z7 => k_is)
    (case z8 => k_is)
    (case z9 => k_is)
    (case z10 => k_is)
    (case z11 => k_is)
    (case z12 => k_is)
    (case z13 => k_is)
    (case z14 => k_is)
    (case z15 => k_is)
    (case z16 => k_is)
    (case z17 => k_is)

