import PyProof.Rows.All
import Wide.All
import OpenK.AllK
import Wide.FinOn
import HandS.ForMost
import HandS.ForExc
import HandS.IsInst
import HandS.Deep
import HandS.StrMore
import HandS.SetKeys
import HandS.TupAny
import HandS.Style
import HandS.Evl
import HandS.Walk
import HandS.Wide
import KE.GoesMore
import KE.GoesEnum
import HandS.Strs
import HandS.Sort
import HandS.WordsDict
import HandS.More
import HandS.Dict
import HandS.Small
import HandS.TupLe
import PyProof.ReprLen
import PyProof.ReprRoads
import PyProof.Rows.RegStrFacts
import HandS.ExcInit
import PyProof.ExcBaseAll.IndexError
import PyProof.ExcBaseAll.LookupError
import HandS.WordsExc
import HandS.ExcField
import HandS.FStr
import HandS.ExcOwn
import HandS.DictComp
import HandS.Zip
import PyProof.ExcBaseAll.Exception
import HandS.ExcCtx
import HandS.HotCalls
import KE.KDictZip
import KE.GoesZip
import PyProof.ListNew
import HandS.Comp
import HandS.TryMany
import HandS.Defaults
import PyProof.FitsInt
import HandS.DeepEq
import PySem.Challenge.RW_watchedrun_k13_guards_and_calls_of_trees
set_option Elab.async false
set_option linter.all false
set_option maxRecDepth 100000
set_option maxHeartbeats 4000000
namespace Wr
open PySem PySem.Spec PyProof.Rows L2 Evl

/-! ### heaps with some addresses hidden -/
def hid (b : List Addr) (H : Hp) : Hp := fun a => if a ∈ b then none else H a
def Kn (b : List Addr) (H : Hp) : Prop := ∀ a ∈ b, H a ≠ none
theorem hid_ne {b : List Addr} {H : Hp} {a : Addr} (h : a ∉ b) : hid b H a = H a := if_neg h
theorem hid_some {b : List Addr} {H : Hp} {a : Addr} {o : HO} (h : hid b H a = some o) : a ∉ b ∧ H a = some o := by
  unfold hid at h
  by_cases e : a ∈ b
  · rw [if_pos e] at h
    cases h
  · rw [if_neg e] at h
    exact ⟨e, h⟩
theorem hid_le {b : List Addr} {H : Hp} : Ex (hid b H) H := fun _ _ h => (hid_some h).2
theorem hid_ex {b : List Addr} {H H' : Hp} (e : Ex H H') : Ex (hid b H) (hid b H') := fun a o h => by
  obtain ⟨h1, h2⟩ := hid_some h
  rw [hid_ne h1]
  exact e a o h2
theorem Kn.up {b : List Addr} {H H' : Hp} (k : Kn b H) (e : Ex H H') : Kn b H' := fun a ha h => by
  have := k a ha
  cases q : H a with
  | none => exact this q
  | some o =>
    rw [e a o q] at h
    cases h
theorem Kn.new {b : List Addr} {H : Hp} (k : Kn b H) {p : Addr} (hp : H p = none) : p ∉ b := fun e => k p e hp

/-! ### data whose tuples are known to have no dict of their own -/
def TN (K : PySem.W.Frag) (H : Hp) (a : Addr) : Prop := (∃ o u, H a = some (.frz o u) ∧ o.dict = none) ∨ ∃ o, K.lookup a = some o ∧ o.cls = .type "tuple" ∧ o.dict = none
theorem TN.ex {K : PySem.W.Frag} {H H' : Hp} {a : Addr} (e : Ex H H') (h : TN K H a) : TN K H' a := by
  rcases h with ⟨o, u, h1, h2⟩ | h
  · exact .inl ⟨o, u, e _ _ h1, h2⟩
  · exact .inr h
mutual
inductive Dd (K : PySem.W.Frag) (H : Hp) : V → PyData → Prop
  | non : Dd K H .non .none
  | bl (b : Bool) : Dd K H (.bl b) (.bool b)
  | int (i : Int) : Dd K H (.int i) (.int i)
  | str (x : Str) : Dd K H (.str x) (.str x)
  | lst {a : Addr} {xs : List V} {ds : List PyData} : SqL K H a xs → DdAll K H xs ds → Dd K H (.ref a) (.list ds)
  | tup {a : Addr} {xs : List V} {ds : List PyData} : SqT K H a xs → TN K H a → DdAll K H xs ds → Dd K H (.ref a) (.tuple ds)
inductive DdAll (K : PySem.W.Frag) (H : Hp) : List V → List PyData → Prop
  | nil : DdAll K H [] []
  | cons {v : V} {vs : List V} {d : PyData} {ds : List PyData} : Dd K H v d → DdAll K H vs ds → DdAll K H (v :: vs) (d :: ds)
end
mutual
theorem dd_dp {K : PySem.W.Frag} {H : Hp} : ∀ (d : PyData) (v : V), Dd K H v d → Dp K H v d
  | .none, _, h => by cases h; exact .non
  | .bool b, _, h => by cases h; exact .bl b
  | .int i, _, h => by cases h; exact .int i
  | .str x, _, h => by cases h; exact .str x
  | .list ds, _, h => by
    cases h with
    | lst hs ha => exact .lst hs (dds_dp ds _ ha)
  | .tuple ds, _, h => by
    cases h with
    | tup hs _ ha => exact .tup hs (dds_dp ds _ ha)
  | .dict _, _, h => by cases h
theorem dds_dp {K : PySem.W.Frag} {H : Hp} : ∀ (ds : List PyData) (vs : List V), DdAll K H vs ds → DpAll K H vs ds
  | [], _, h => by cases h; exact .nil
  | d :: ds, _, h => by
    cases h with
    | cons h1 h2 => exact .cons (dd_dp d _ h1) (dds_dp ds _ h2)
end
/-! ### data stay where the heap grows -/
mutual
theorem dp_ex {K : PySem.W.Frag} {H H' : Hp} (e : Ex H H') : ∀ (d : PyData) (v : V), Dd K H v d → Dd K H' v d
  | .none, _, h => by cases h; exact .non
  | .bool b, _, h => by cases h; exact .bl b
  | .int i, _, h => by cases h; exact .int i
  | .str x, _, h => by cases h; exact .str x
  | .list ds, _, h => by
    cases h with
    | lst hs ha => exact .lst (ex_l e hs) (dps_ex e ds _ ha)
  | .tuple ds, _, h => by
    cases h with
    | tup hs hn ha => exact .tup (ex_t e hs) (hn.ex e) (dps_ex e ds _ ha)
  | .dict _, _, h => by cases h
theorem dps_ex {K : PySem.W.Frag} {H H' : Hp} (e : Ex H H') : ∀ (ds : List PyData) (vs : List V), DdAll K H vs ds → DdAll K H' vs ds
  | [], _, h => by cases h; exact .nil
  | d :: ds, _, h => by
    cases h with
    | cons h1 h2 => exact .cons (dp_ex e d _ h1) (dps_ex e ds _ h2)
end
abbrev Dq (K : PySem.W.Frag) (b : List Addr) (H : Hp) (v : V) (d : PyData) : Prop := Dd K (hid b H) v d
abbrev DqAll (K : PySem.W.Frag) (b : List Addr) (H : Hp) (vs : List V) (ds : List PyData) : Prop := DdAll K (hid b H) vs ds
section
variable {K : PySem.W.Frag} {b : List Addr} {H H' H1 H2 : Hp} {v : V} {vs : List V} {d e : PyData} {ds : List PyData}
theorem Dq.up (h : Dq K b H v d) (e : Ex H H') : Dq K b H' v d := dp_ex (hid_ex e) d v h
theorem DqAll.up (h : DqAll K b H vs ds) (e : Ex H H') : DqAll K b H' vs ds := dps_ex (hid_ex e) ds vs h
theorem Dq.dd (h : Dq K b H v d) : Dd K H v d := dp_ex hid_le d v h
theorem Dq.dp (h : Dq K b H v d) : Dp K H v d := dd_dp d v h.dd
theorem DqAll.dd (h : DqAll K b H vs ds) : DdAll K H vs ds := dps_ex hid_le ds vs h
theorem dps_len : ∀ {vs : List V} {ds : List PyData} {H : Hp}, DdAll K H vs ds → vs.length = ds.length
  | _, [], _, h => by cases h; rfl
  | _, d :: ds, _, h => by
    cases h with
    | cons h1 h2 => rw [List.length_cons, List.length_cons, dps_len h2]
theorem dps_get : ∀ {vs : List V} {ds : List PyData} {H : Hp} {i : Nat} {d : PyData}, DdAll K H vs ds → ds[i]? = some d → ∃ v, vs[i]? = some v ∧ Dd K H v d
  | _, [], _, i, d, h, e => by simp at e
  | _, x :: ds, _, 0, d, h, e => by
    cases h with
    | cons h1 h2 =>
      have e1 : x = d := Option.some.inj e
      subst e1
      exact ⟨_, rfl, h1⟩
  | _, x :: ds, _, i + 1, d, h, e => by
    cases h with
    | cons h1 h2 =>
      obtain ⟨v, q1, q2⟩ := dps_get h2 (i := i) e
      exact ⟨v, q1, q2⟩
theorem dps_at : ∀ {vs : List V} {ds : List PyData} {H : Hp} {i : Nat} {v : V}, DdAll K H vs ds → vs[i]? = some v → ∃ d, ds[i]? = some d ∧ Dd K H v d
  | _, [], _, i, v, h, e => by cases h; simp at e
  | _, x :: ds, _, 0, v, h, e => by
    cases h with
    | cons h1 h2 =>
      have e1 := Option.some.inj e
      subst e1
      exact ⟨_, rfl, h1⟩
  | _, x :: ds, _, i + 1, v, h, e => by
    cases h with
    | cons h1 h2 =>
      obtain ⟨d, q1, q2⟩ := dps_at h2 (i := i) e
      exact ⟨d, q1, q2⟩
theorem dps_app : ∀ {vs ws : List V} {ds es : List PyData} {H : Hp}, DdAll K H vs ds → DdAll K H ws es → DdAll K H (vs ++ ws) (ds ++ es)
  | _, _, [], _, _, h, h' => by cases h; exact h'
  | _, _, x :: ds, _, _, h, h' => by
    cases h with
    | cons h1 h2 => exact .cons h1 (dps_app h2 h')
theorem dps_drop : ∀ {vs : List V} {ds : List PyData} {H : Hp} (n : Nat), DdAll K H vs ds → DdAll K H (vs.drop n) (ds.drop n)
  | _, _, _, 0, h => h
  | _, [], _, n + 1, h => by cases h; exact .nil
  | _, x :: ds, _, n + 1, h => by
    cases h with
    | cons h1 h2 => exact dps_drop n h2
theorem dps_take : ∀ {vs : List V} {ds : List PyData} {H : Hp} (n : Nat), DdAll K H vs ds → DdAll K H (vs.take n) (ds.take n)
  | _, _, _, 0, h => .nil
  | _, [], _, n + 1, h => by cases h; exact .nil
  | _, x :: ds, _, n + 1, h => by
    cases h with
    | cons h1 h2 => exact .cons h1 (dps_take n h2)
/-- texts are texts -/
theorem dps_strs : ∀ {vs : List V} {xs : List Str} {H : Hp}, DdAll K H vs (xs.map PyData.str) → vs = xs.map V.str
  | _, [], _, h => by cases h; rfl
  | _, x :: xs, _, h => by
    cases h with
    | cons h1 h2 =>
      cases h1
      rw [dps_strs h2]
      rfl
theorem strs_dps : ∀ (xs : List Str) {H : Hp}, DdAll K H (xs.map V.str) (xs.map PyData.str)
  | [], _ => .nil
  | x :: xs, _ => .cons (.str x) (strs_dps xs)
theorem dps_bls : ∀ {vs : List V} {xs : List Bool} {H : Hp}, DdAll K H vs (xs.map PyData.bool) → vs = xs.map V.bl
  | _, [], _, h => by cases h; rfl
  | _, x :: xs, _, h => by
    cases h with
    | cons h1 h2 =>
      cases h1
      rw [dps_bls h2]
      rfl
end
/-- a new object at p keeps what is hidden hidden -/
theorem hid_new {b : List Addr} {H : Hp} {p : Addr} {o : HO} (h : p ∉ b) : hid b (upd H p o) p = some o := by
  rw [hid_ne h, upd_same]
end Wr

set_option Elab.async false
set_option linter.all false
set_option maxRecDepth 100000
set_option maxHeartbeats 4000000
namespace Wr
open PySem PySem.Spec PyProof.Rows L2 Evl

/-! ### what evaluates to which datum -/
section
variable (K : PySem.W.Frag) (b : List Addr)
def ED (te : TE) (σ : L2.St) (H : Hp) (d : PyData) : Prop := ∀ H1, Ex H H1 → ∀ Q : VK, (∀ v H2, Ex H1 H2 → Dq K b H2 v d → Q v H2) → te σ H1 Q
def EA (ta : TA) (σ : L2.St) (H : Hp) (ds : List PyData) : Prop := ∀ H1, Ex H H1 → ∀ Q : List V → Hp → Prop, (∀ vs H2, Ex H1 H2 → DqAll K b H2 vs ds → Q vs H2) → ta σ H1 Q
def SR (ts : TS) (σ : L2.St) (H : Hp) (d : PyData) : Prop := ∀ H1, Ex H H1 → ∀ D : Ends, (∀ v H2, Ex H1 H2 → Dq K b H2 v d → D.rt v H2) → ts D σ H1
end
/-- a pure def: data in, a datum out, all that stood stands -/
def spP (K : PySem.W.Frag) (pre : List PyData → Prop) (f : List PyData → PyData) : Sp := fun vs H Q _ =>
  ∃ b ds, Kn b H ∧ DqAll K b H vs ds ∧ pre ds ∧ ∀ v H', Ex H H' → Dq K b H' v (f ds) → Q v H'
section
variable {K : PySem.W.Frag} {b : List Addr} {σ : L2.St} {H H' : Hp} {ta tb tc te : TE} {t : TA} {tt : TT} {ts t1 t2 : TS} {d e : PyData} {ds : List PyData} {v : V}
theorem ED.mono (x : Ex H H') (h : ED K b te σ H d) : ED K b te σ H' d := fun H1 a Q q => h H1 (x.trans a) Q q
theorem EA.mono (x : Ex H H') (h : EA K b t σ H ds) : EA K b t σ H' ds := fun H1 a Q q => h H1 (x.trans a) Q q
theorem SR.mono (x : Ex H H') (h : SR K b ts σ H d) : SR K b ts σ H' d := fun H1 a Q q => h H1 (x.trans a) Q q
theorem ED.to (h : ED K b te σ H d) (x : d = e) : ED K b te σ H e := x ▸ h
theorem SR.to (h : SR K b ts σ H d) (x : d = e) : SR K b ts σ H e := x ▸ h
theorem ed_var {i : Nat} (h : σ[i]? = some (some v)) (hd : Dq K b H v d) : ED K b (tVar i) σ H d := fun H1 x _ q => ⟨v, h, q v H1 (Ex.refl H1) (hd.up x)⟩
theorem ed_c (hd : Dq K b H v d) : ED K b (tC v) σ H d := fun H1 x _ q => q v H1 (Ex.refl H1) (hd.up x)
theorem ed_int {i : Int} : ED K b (tC (.int i)) σ H (.int i) := ed_c (.int i)
theorem ed_str {x : Str} : ED K b (tC (.str x)) σ H (.str x) := ed_c (.str x)
theorem ed_bl {x : Bool} : ED K b (tC (.bl x)) σ H (.bool x) := ed_c (.bl x)
theorem ed_non : ED K b (tC .non) σ H .none := ed_c .non
/-- two operands, then an operation on data -/
theorem ed_op {r : R2} {z : PyData} (ha : ED K b ta σ H d) (hb : ED K b tb σ H e) (hr : ∀ H1 x y (Q : VK), Ex H H1 → Dq K b H1 x d → Dq K b H1 y e → (∀ v H2, Ex H1 H2 → Dq K b H2 v z → Q v H2) → r x y H1 Q) : ED K b (tOp r ta tb) σ H z :=
  fun H1 x1 Q q => ha H1 x1 _ fun x H2 x2 hx => hb H2 (x1.trans x2) _ fun y H3 x3 hy =>
    hr H3 x y Q ((x1.trans x2).trans x3) (hx.up x3) hy fun v H4 x4 hv => q v H4 ((x2.trans x3).trans x4) hv
theorem ed_eq (ha : ED K b ta σ H d) (hb : ED K b tb σ H e) (sd : SeqAt.shaped d = true) (se : SeqAt.shaped e = true) : ED K b (tOp (rEqD K) ta tb) σ H (.bool (PyData.eqv d e)) :=
  ed_op ha hb fun H1 x y Q _ hx hy q => ⟨d, e, hx.dp, hy.dp, sd, se, q _ H1 (Ex.refl H1) (.bl _)⟩
theorem ed_ne (ha : ED K b ta σ H d) (hb : ED K b tb σ H e) (sd : SeqAt.shaped d = true) (se : SeqAt.shaped e = true) : ED K b (tOp (rNeD K) ta tb) σ H (.bool (!PyData.eqv d e)) :=
  ed_op ha hb fun H1 x y Q _ hx hy q => ⟨d, e, hx.dp, hy.dp, sd, se, q _ H1 (Ex.refl H1) (.bl _)⟩
theorem dq_int {i : Int} (h : Dq K b H v (.int i)) : v = .int i := by cases h; rfl
theorem dq_bl {i : Bool} (h : Dq K b H v (.bool i)) : v = .bl i := by cases h; rfl
theorem dq_str {i : Str} (h : Dq K b H v (.str i)) : v = .str i := by cases h; rfl
theorem ed_I0 {g : Int → Int → V} {i j : Int} {z : PyData} (ha : ED K b ta σ H (.int i)) (hb : ED K b tb σ H (.int j)) (hz : ∀ H', Dq K b H' (g i j) z) : ED K b (tOp (rI0 g) ta tb) σ H z :=
  ed_op ha hb fun H1 x y Q _ hx hy q => ⟨i, j, dq_int hx, dq_int hy, q _ H1 (Ex.refl H1) (hz _)⟩
theorem ed_I {C : Int → Int → Prop} {g : Int → Int → V} {i j : Int} {z : PyData} (ha : ED K b ta σ H (.int i)) (hb : ED K b tb σ H (.int j)) (hc : C i j) (hz : ∀ H', Dq K b H' (g i j) z) : ED K b (tOp (rI C g) ta tb) σ H z :=
  ed_op ha hb fun H1 x y Q _ hx hy q => ⟨i, j, dq_int hx, dq_int hy, hc, q _ H1 (Ex.refl H1) (hz _)⟩
theorem ed_lt {i j : Int} (ha : ED K b ta σ H (.int i)) (hb : ED K b tb σ H (.int j)) : ED K b (tOp (rI0 fun i j => .bl (decide (i < j))) ta tb) σ H (.bool (decide (i < j))) := ed_I0 ha hb fun _ => .bl _
theorem ed_le {i j : Int} (ha : ED K b ta σ H (.int i)) (hb : ED K b tb σ H (.int j)) : ED K b (tOp (rI0 fun i j => .bl (decide (i ≤ j))) ta tb) σ H (.bool (decide (i ≤ j))) := ed_I0 ha hb fun _ => .bl _
theorem ed_gt {i j : Int} (ha : ED K b ta σ H (.int i)) (hb : ED K b tb σ H (.int j)) : ED K b (tOp (rI0 fun i j => .bl (decide (j < i))) ta tb) σ H (.bool (decide (j < i))) := ed_I0 ha hb fun _ => .bl _
theorem ed_ge {i j : Int} (ha : ED K b ta σ H (.int i)) (hb : ED K b tb σ H (.int j)) : ED K b (tOp (rI0 fun i j => .bl (decide (j ≤ i))) ta tb) σ H (.bool (decide (j ≤ i))) := ed_I0 ha hb fun _ => .bl _
theorem ed_add {i j : Int} (ha : ED K b ta σ H (.int i)) (hb : ED K b tb σ H (.int j)) : ED K b (tOp (rI0 fun i j => .int (i + j)) ta tb) σ H (.int (i + j)) := ed_I0 ha hb fun _ => .int _
theorem ed_sub {i j : Int} (ha : ED K b ta σ H (.int i)) (hb : ED K b tb σ H (.int j)) : ED K b (tOp (rI0 fun i j => .int (i - j)) ta tb) σ H (.int (i - j)) := ed_I0 ha hb fun _ => .int _
theorem ed_neg {i : Int} (ha : ED K b ta σ H (.int i)) : ED K b (tUn (rU fun i => .int (-i)) ta) σ H (.int (-i)) := fun H1 x1 Q q =>
  ha H1 x1 _ fun x H2 x2 hx => ⟨i, dq_int hx, q _ H2 x2 (.int _)⟩
/-- a chain of two comparisons of ints -/
theorem ed_chain {g g' : Int → Int → Bool} {i j k : Int} (ha : ED K b ta σ H (.int i)) (hb : ED K b tb σ H (.int j)) (hc : ED K b tc σ H (.int k)) :
    ED K b (tChain (rI0 fun i j => .bl (g i j)) (rI0 fun i j => .bl (g' i j)) ta tb tc) σ H (.bool (g i j && g' j k)) := fun H1 x1 Q q =>
  ha H1 x1 _ fun x H2 x2 hx => hb H2 (x1.trans x2) _ fun y H3 x3 hy => ⟨i, j, dq_int hx, dq_int hy, g i j, rfl, by
    cases hg : g i j with
    | false =>
      rw [if_neg Bool.false_ne_true]
      rw [hg] at q
      exact q _ H3 (x2.trans x3) (.bl _)
    | true =>
      rw [if_pos rfl]
      rw [hg] at q
      exact hc H3 ((x1.trans x2).trans x3) _ fun z H4 x4 hz => ⟨j, k, dq_int hy, dq_int hz, q _ H4 ((x2.trans x3).trans x4) (.bl _)⟩⟩
theorem ed_and {c : Bool} (ha : ED K b ta σ H (.bool c)) (hb : c = true → ED K b tb σ H d) : ED K b (tAndV ta tb) σ H (if c = true then d else .bool false) := fun H1 x1 Q q =>
  ha H1 x1 _ fun x H2 x2 hx => ⟨c, dq_bl hx, by
    cases c with
    | false =>
      rw [if_neg Bool.false_ne_true]
      rw [if_neg Bool.false_ne_true] at q
      exact q _ H2 x2 (.bl _)
    | true =>
      rw [if_pos rfl]
      rw [if_pos rfl] at q
      exact hb rfl H2 (x1.trans x2) _ fun z H4 x4 hz => q _ H4 (x2.trans x4) hz⟩
theorem ed_or {c : Bool} (ha : ED K b ta σ H (.bool c)) (hb : c = false → ED K b tb σ H d) : ED K b (tOrV ta tb) σ H (if c = true then .bool true else d) := fun H1 x1 Q q =>
  ha H1 x1 _ fun x H2 x2 hx => ⟨c, dq_bl hx, by
    cases c with
    | true =>
      rw [if_pos rfl]
      rw [if_pos rfl] at q
      exact q _ H2 x2 (.bl _)
    | false =>
      rw [if_neg Bool.false_ne_true]
      rw [if_neg Bool.false_ne_true] at q
      exact hb rfl H2 (x1.trans x2) _ fun z H4 x4 hz => q _ H4 (x2.trans x4) hz⟩
/-- and, or of truths -/
theorem ed_andB {c k : Bool} (ha : ED K b ta σ H (.bool c)) (hb : c = true → ED K b tb σ H (.bool k)) : ED K b (tAndV ta tb) σ H (.bool (c && k)) := (ed_and ha hb).to (by cases c <;> rfl)
theorem ed_orB {c k : Bool} (ha : ED K b ta σ H (.bool c)) (hb : c = false → ED K b tb σ H (.bool k)) : ED K b (tOrV ta tb) σ H (.bool (c || k)) := (ed_or ha hb).to (by cases c <;> rfl)
theorem ed_not {c : Bool} (ha : ED K b ta σ H (.bool c)) : ED K b (tNotV ta) σ H (.bool (!c)) := fun H1 x1 Q q =>
  ha H1 x1 _ fun x H2 x2 hx => ⟨c, dq_bl hx, q _ H2 x2 (.bl _)⟩
theorem et_t {c : Bool} (h : ED K b te σ H (.bool c)) : EvT (tTest te) σ H c := fun H1 x Q q => h H1 x _ fun v H2 x2 hv => ⟨c, dq_bl hv, q H2 x2⟩
theorem et_b {c : Bool} (h : ED K b te σ H (.bool c)) : EvT (tB te) σ H c := fun H1 x Q q => h H1 x _ fun v H2 x2 hv => ⟨c, dq_bl hv, q H2 x2⟩
theorem ed_if {c : Bool} (hc : EvT tt σ H c) (ha : c = true → ED K b ta σ H d) (hb : c = false → ED K b tb σ H e) : ED K b (tIf tt ta tb) σ H (if c = true then d else e) := fun H1 x1 Q q =>
  hc H1 x1 _ fun H2 x2 => by
    cases c with
    | true =>
      rw [if_pos rfl]
      rw [if_pos rfl] at q
      exact ha rfl H2 (x1.trans x2) _ fun z H4 x4 hz => q _ H4 (x2.trans x4) hz
    | false =>
      rw [if_neg Bool.false_ne_true]
      rw [if_neg Bool.false_ne_true] at q
      exact hb rfl H2 (x1.trans x2) _ fun z H4 x4 hz => q _ H4 (x2.trans x4) hz
/-! ### arguments, calls -/
theorem ea_nil : EA K b tNil σ H [] := fun H1 x Q q => q [] H1 (Ex.refl H1) .nil
theorem ea_cons (ha : ED K b ta σ H d) (hr : EA K b t σ H ds) : EA K b (tCons ta t) σ H (d :: ds) := fun H1 x1 Q q =>
  ha H1 x1 _ fun x H2 x2 hx => hr H2 (x1.trans x2) _ fun xs H3 x3 hxs => q _ H3 (x2.trans x3) (.cons (hx.up x3) hxs)
theorem ed_call {pre : List PyData → Prop} {f : List PyData → PyData} {E : XK} (kn : Kn b H) (ha : EA K b t σ H ds) (hp : pre ds) : ED K b (tCall (spP K pre f) [] E t) σ H (f ds) := fun H1 x1 Q q =>
  ha H1 x1 _ fun vs H2 x2 hvs => ⟨b, ds, kn.up (x1.trans x2), by rw [List.append_nil]; exact hvs, hp, fun v H3 x3 hv => q v H3 (x2.trans x3) hv⟩
/-! ### blocks -/
theorem sr_ret (h : ED K b te σ H d) : SR K b (tRet te) σ H d := fun H1 x D q => h H1 x _ fun v H2 x2 hv => q v H2 x2 hv
theorem sr_if {c : Bool} (hc : EvT tt σ H c) (h1 : c = true → SR K b t1 σ H d) (h2 : c = false → SR K b t2 σ H e) : SR K b (tSeq (tIfS tt t1 tNext) t2) σ H (if c = true then d else e) := fun H1 x1 D q =>
  hc H1 x1 _ fun H2 x2 => by
    cases c with
    | true =>
      rw [if_pos rfl]
      rw [if_pos rfl] at q
      exact h1 rfl H2 (x1.trans x2) _ fun z H4 x4 hz => q _ H4 (x2.trans x4) hz
    | false =>
      rw [if_neg Bool.false_ne_true]
      rw [if_neg Bool.false_ne_true] at q
      exact h2 rfl H2 (x1.trans x2) _ fun z H4 x4 hz => q _ H4 (x2.trans x4) hz
theorem sr_set {i : Nat} (h : ED K b te σ H e) (k : ∀ v H', Ex H H' → Dq K b H' v e → SR K b ts (σ.set i (some v)) H' d) : SR K b (tSeq (tAsg te (gName i)) ts) σ H d := fun H1 x1 D q =>
  h H1 x1 _ fun v H2 x2 hv => k v H2 (x1.trans x2) hv H2 (Ex.refl H2) D fun z H4 x4 hz => q _ H4 (x2.trans x4) hz
/-- the def's own end -/
theorem SR.fin {D : Ends} (h : SR K b ts σ H d) (q : ∀ v H', Ex H H' → Dq K b H' v d → D.rt v H') : ts D σ H := h H (Ex.refl H) D q
end
/-! ### kinds -/
def dTy : PyData → String
  | .none => "NoneType"
  | .bool _ => "bool"
  | .int _ => "int"
  | .str _ => "str"
  | .list _ => "list"
  | .tuple _ => "tuple"
  | .dict _ => "dict"
def tyIs (t T : String) : Bool := t == T || (t == "bool" && T == "int")
def isD (T : String) (d : PyData) : Bool := tyIs (dTy d) T
theorem dp_ty {K : PySem.W.Frag} {H : Hp} {v : V} {d : PyData} (h : Dp K H v d) : TyX K H v (.type (dTy d)) := by
  cases h with
  | non => exact .base .non
  | bl b => exact .base (.bl b)
  | int i => exact .base (.int i)
  | str x => exact .base (.str x)
  | lst hs _ =>
    rcases hs with (h | ⟨o, h⟩) | ⟨o, _, _, h1, h2, _⟩
    · exact .base (.lst h)
    · exact .base (.frz h)
    · exact .kList h1 h2
  | tup hs _ =>
    rcases hs with (h | ⟨o, h⟩) | ⟨o, _, _, h1, h2, _⟩
    · exact .base (.tup h)
    · exact .fTuple h
    · exact .kTuple h1 h2
def KindT (T : String) : Prop := T = "int" ∨ T = "bool" ∨ T = "str" ∨ T = "tuple" ∨ T = "list"
theorem kit_all : (["NoneType", "bool", "int", "str", "list", "tuple"].all fun t => ["int", "bool", "str", "tuple", "list"].all fun T => decide (kitB t T = some (tyIs t T))) = true := by decide +kernel
theorem kit_at {t T : String} (ht : t ∈ ["NoneType", "bool", "int", "str", "list", "tuple"]) (hT : T ∈ ["int", "bool", "str", "tuple", "list"]) : kitB t T = some (tyIs t T) :=
  of_decide_eq_true (List.all_eq_true.mp (List.all_eq_true.mp kit_all t ht) T hT)
theorem dp_kit {K : PySem.W.Frag} {H : Hp} {v : V} {d : PyData} (h : Dp K H v d) {T : String} (hT : KindT T) : PySem.W.kitOne K (.type (dTy d)) (.type T) = some (isD T d) := by
  refine kit_ty (kit_at ?_ ?_)
  · cases h <;> simp [dTy]
  · rcases hT with rfl | rfl | rfl | rfl | rfl <;> simp
section
variable {K : PySem.W.Frag} {b : List Addr} {σ : L2.St} {H H' : Hp} {ta tb : TE} {d e : PyData} {ds : List PyData} {v : V}
theorem ed_isi {T : String} (hT : KindT T) (ha : ED K b ta σ H d) : ED K b (tCB (rIsi K) (tCons ta (tCons (tC (.ty T)) tNil))) σ H (.bool (isD T d)) := fun H1 x1 Q q =>
  ha H1 x1 _ fun x H2 x2 hx => ⟨x, .ty T, .type (dTy d), .type T, isD T d, rfl, .ty T, dp_ty hx.dp, dp_kit hx.dp hT, q _ H2 x2 (.bl _)⟩
/-! ### len -/
def lenD : PyData → Nat
  | .str x => x.length
  | .list xs => xs.length
  | .tuple xs => xs.length
  | _ => 0
def rLen (K : PySem.W.Frag) : List V → Hp → VK → Prop := fun xs H Q => ∃ x n, xs = [x] ∧ LenV K x H n ∧ Q (.int n) H
theorem call_lenD1 {X : Cx} : CallR X (.builtin "len") (rLen X.K) := call_len
theorem ed_len (ha : ED K b ta σ H d) (hk : isD "str" d = true ∨ isD "list" d = true ∨ isD "tuple" d = true) (hs : ∀ x, d = .str x → x.length ≤ sizeLine) : ED K b (tCB (rLen K) (tCons ta tNil)) σ H (.int (lenD d)) := fun H1 x1 Q q =>
  ha H1 x1 _ fun x H2 x2 hx => by
    refine ⟨x, lenD d, rfl, ?_, q _ H2 x2 (.int _)⟩
    have hx' := hx.dd
    cases hx' with
    | str y => exact ⟨hs y rfl, rfl⟩
    | lst h1 h2 => exact Or.inl ⟨_, h1, (dps_len h2).symm⟩
    | tup h1 _ h2 => exact Or.inr ⟨_, h1, (dps_len h2).symm⟩
    | non => rcases hk with h | h | h <;> exact absurd h (by show ¬ tyIs "NoneType" _ = true; decide)
    | bl c => rcases hk with h | h | h <;> exact absurd h (by show ¬ tyIs "bool" _ = true; decide)
    | int c => rcases hk with h | h | h <;> exact absurd h (by show ¬ tyIs "int" _ = true; decide)
/-! ### items -/
theorem dps_atI {H : Hp} {vs : List V} {ds : List PyData} {i : Int} {d : PyData} (h : DdAll K H vs ds) (hi : atI ds i = some d) : ∃ v, atI vs i = some v ∧ Dd K H v d := by
  unfold atI at hi ⊢
  rw [dps_len h]
  cases hj : ixN ds.length i with
  | none => rw [hj] at hi; cases hi
  | some j =>
    rw [hj] at hi
    exact dps_get h (i := j) hi
theorem ed_ixT {i : Int} {z : PyData} (ha : ED K b ta σ H (.tuple ds)) (hb : ED K b tb σ H (.int i)) (hi : atI ds i = some z) : ED K b (tOp (rIxT K) ta tb) σ H z :=
  ed_op ha hb fun H1 x y Q _ hx hy q => by
    cases hx with
    | tup h1 _ h2 =>
      obtain ⟨v, q1, q2⟩ := dps_atI h2 hi
      exact ⟨_, _, i, v, rfl, dq_int hy, ex_t hid_le h1, q1, q v H1 (Ex.refl H1) q2⟩
theorem ed_ixL {i : Int} {z : PyData} (ha : ED K b ta σ H (.list ds)) (hb : ED K b tb σ H (.int i)) (hi : atI ds i = some z) : ED K b (tOp (rIxL K) ta tb) σ H z :=
  ed_op ha hb fun H1 x y Q _ hx hy q => by
    cases hx with
    | lst h1 h2 =>
      obtain ⟨v, q1, q2⟩ := dps_atI h2 hi
      exact ⟨_, _, i, v, rfl, dq_int hy, ex_l hid_le h1, q1, q v H1 (Ex.refl H1) q2⟩
/-! ### in -/
def rInT (K : PySem.W.Frag) (neg : Bool) : R2 := fun x y H Q => ∃ d ds, Dp K H x d ∧ Dp K H y (.tuple ds) ∧ SeqAt.shaped d = true ∧ SeqAt.shaped (.tuple ds) = true ∧ Q (.bl (if neg = true then !ds.any (fun z => PyData.eqv z d) else ds.any fun z => PyData.eqv z d)) H
theorem op_inT {X : Cx} (hu : X.A.units + 65 < cLine) : OpR X (compareOp .In) (rInT X.K false) := by
  intro pins s σ H x y v u Q I rx ry ⟨d, ds, hd, he, sd, se, q⟩
  obtain ⟨as, r1⟩ := Dp.reads I d x v hd rx
  obtain ⟨bs, r2⟩ := Dp.reads I (.tuple ds) y u he ry
  exact SeqAt.in_tuple_reads r2 r1 (SeqAt.canLay_of_shaped se) (SeqAt.canLay_of_shaped sd) (room_in_shaped sd hu) ⟨.bl _, H, I, rfl, q⟩
theorem op_notInT {X : Cx} (hu : X.A.units + 65 < cLine) : OpR X (compareOp .NotIn) (rInT X.K true) := by
  intro pins s σ H x y v u Q I rx ry ⟨d, ds, hd, he, sd, se, q⟩
  obtain ⟨as, r1⟩ := Dp.reads I d x v hd rx
  obtain ⟨bs, r2⟩ := Dp.reads I (.tuple ds) y u he ry
  exact SeqAt.notIn_tuple_reads r2 r1 (SeqAt.canLay_of_shaped se) (SeqAt.canLay_of_shaped sd) (room_in_shaped sd hu) ⟨.bl _, H, I, rfl, q⟩
def inD (d : PyData) (ds : List PyData) : Bool := ds.any fun z => PyData.eqv z d
theorem ed_inT (ha : ED K b ta σ H d) (hb : ED K b tb σ H (.tuple ds)) (sd : SeqAt.shaped d = true) (se : SeqAt.shaped (.tuple ds) = true) : ED K b (tOp (rInT K false) ta tb) σ H (.bool (inD d ds)) :=
  ed_op ha hb fun H1 x y Q _ hx hy q => ⟨d, ds, hx.dp, hy.dp, sd, se, q _ H1 (Ex.refl H1) (.bl _)⟩
theorem ed_inL (ha : ED K b ta σ H d) (hb : ED K b tb σ H (.list ds)) (sd : SeqAt.shaped d = true) (se : SeqAt.shaped (.list ds) = true) : ED K b (tOp (rInD K) ta tb) σ H (.bool (inD d ds)) :=
  ed_op ha hb fun H1 x y Q _ hx hy q => ⟨d, ds, hx.dp, hy.dp, sd, se, q _ H1 (Ex.refl H1) (.bl _)⟩
theorem ed_ninL (ha : ED K b ta σ H d) (hb : ED K b tb σ H (.list ds)) (sd : SeqAt.shaped d = true) (se : SeqAt.shaped (.list ds) = true) : ED K b (tOp (rNotInD K) ta tb) σ H (.bool (!inD d ds)) :=
  ed_op ha hb fun H1 x y Q _ hx hy q => ⟨d, ds, hx.dp, hy.dp, sd, se, q _ H1 (Ex.refl H1) (.bl _)⟩
/-! ### new lists and tuples -/
theorem ed_lst {t : TA} (kn : Kn b H) (ha : EA K b t σ H ds) (hl : ds.length ≤ sizeLine) : ED K b (tLst t) σ H (.list ds) := fun H1 x1 Q q =>
  ha H1 x1 _ fun vs H2 x2 hvs => ⟨by rw [dps_len hvs]; exact hl, fun p hp => q _ _ (x2.trans (Ex.new hp))
    (.lst (.inl (.inl (hid_new ((kn.up (x1.trans x2)).new hp)))) (hvs.up (Ex.new hp)))⟩
/-- a tuple display, its object known -/
def tTupF (t : TA) : TE := fun σ H Q => t σ H fun xs H1 => xs.length ≤ sizeLine ∧ ∀ p o, H1 p = none → o.dict = none → Q (.ref p) (upd H1 p (.frz o (.tup xs)))
theorem pe_tupF {X : Cx} {es : List Expr} {t : TA} {pos : Pos} {x1} (h : PA X es t) : PE X (.Tuple es x1 pos) (tTupF t) := by
  refine ⟨fun pins s σ H Q I hq => ?_⟩
  refine wpAny_Tuple_spliced (thn (h.run pos pins s σ H _ I hq) fun us s1 ⟨xs, H1, I1, r, z, q⟩ => ⟨by rw [← r.length]; exact z, ?_⟩)
  have hf : H1 s1.heap.objs.size = none := I1.hok.fresh (Nat.le_refl _)
  refine ⟨.ref s1.heap.objs.size, upd H1 s1.heap.objs.size (.frz { cls := .type "tuple", data := .seq us.toArray } (.tup xs)),
    I1.laid (t' := s1.toks) (fun b u e => Heap.get?_push_of_some _ e) (Nat.le_refl _) ?_, rfl, q _ _ hf rfl⟩
  exact ⟨Heap.get?_push_size _ rfl, z, us, r, ⟨_, Heap.get?_push_size _ rfl, rfl, _, rfl⟩⟩
theorem ed_tup {t : TA} (kn : Kn b H) (ha : EA K b t σ H ds) (hl : ds.length ≤ sizeLine) : ED K b (tTupF t) σ H (.tuple ds) := fun H1 x1 Q q =>
  ha H1 x1 _ fun vs H2 x2 hvs => ⟨by rw [dps_len hvs]; exact hl, fun p o hp ho => by
    have e := hid_new (o := HO.frz o (.tup vs)) (H := H2) ((kn.up (x1.trans x2)).new hp)
    exact q _ _ (x2.trans (Ex.new hp)) (.tup (.inl (.inr ⟨_, e⟩)) (.inl ⟨_, _, e, ho⟩) (hvs.up (Ex.new hp)))⟩
/-! ### all([..]) -/
theorem ed_all {bs : List Bool} (ha : ED K b ta σ H (.list (bs.map PyData.bool))) : ED K b (tCB (rAll K) (tCons ta tNil)) σ H (.bool (bs.all id)) := fun H1 x1 Q q =>
  ha H1 x1 _ fun x H2 x2 hx => by
    have hx' := hx.dd
    cases hx' with
    | lst h1 h2 =>
      rw [dps_bls h2] at h1
      exact ⟨_, bs, rfl, h1, q _ H2 x2 (.bl _)⟩
end
end Wr

set_option Elab.async false
set_option linter.all false
set_option maxRecDepth 100000
set_option maxHeartbeats 4000000
namespace Wr
open PySem PySem.Spec PyProof.Rows L2 Evl

/-! ### enumerate(tuple) -/
theorem enum_new1 {v : Value} {o : Obj} {H : Heap → Prop} (B : Begins v o H) :
    Meets (Builtin.«enumerate.__new__» ⟨[.type "enumerate", v], []⟩) (fun _ R s => H s.heap ∧
      R (.ok (.ret (.ref (s.heap.push o).objs.size)))
        { s with heap := (s.heap.push o).push { cls := .type "enumerate", data := .fields #[.none, .bool false, .ref s.heap.objs.size, rawInt 0, .none, .none] } }) :=
  .of_wp fun prog w A R s h => by
    obtain ⟨hp, g, d, tk, os⟩ := s
    obtain ⟨h1, h⟩ := h
    have hsub := sub_enumerate
    have q1 : ∀ {A' : Around} {E : Value → Shared → Prop} {Q : Value → Shared → Prop}, Q (.ref hp.objs.size) ⟨hp.push o, g, d, tk, os⟩ →
        wpAny (model prog w) A' (pyIter v) Q E ⟨hp, g, d, tk, os⟩ := fun q => B.iter prog w _ _ ⟨hp, g, d, tk, os⟩ _ h1 q
    wp_walk using q1
    refine wpAny_stack_any fun st => wpAny_pure ?_
    split
    · rename_i c _ _ _ _ _
      cases (c == Value.type "enumerate") <;> (wp_walk using q1; exact ⟨_, rfl, h⟩)
    · wp_walk using q1
      exact ⟨_, rfl, h⟩
section
variable {prog : Program} {w : World} {A : Around} {E : Value → Shared → Prop} {s : Shared}
theorem enum_call1 {v : Value} {o : Obj} {H : Heap → Prop} {Q : Value → Shared → Prop} (B : Begins v o H) (h1 : H s.heap)
    (h : ∀ h', IsEnum h' (s.heap.objs.size + 1) s.heap.objs.size 0 .none → h'.get? s.heap.objs.size = some o →
      (∀ b o, s.heap.get? b = some o → h'.get? b = some o) → Q (.ref (s.heap.objs.size + 1)) { s with heap := h' }) :
    wpAny (model prog w) A (call (.type "enumerate") [v]) Q E s := by
  refine callType_new F.called_enumerate (by decide) (F.typeCall_enumerate_1 _) (F.newCall_enumerate_1 _) (fun obj => F.args_object_init_2 obj _)
    F.entry_enumerate_new (enum_new1 B) ⟨h1, ?_⟩
  have hz : (s.heap.push o).objs.size = s.heap.objs.size + 1 := Heap.size_push ..
  show _ ∧ _
  rw [hz]
  have he : IsEnum ((s.heap.push o).push { cls := .type "enumerate", data := .fields #[.none, .bool false, .ref s.heap.objs.size, rawInt 0, .none, .none] })
      (s.heap.objs.size + 1) s.heap.objs.size 0 .none := by
    have g := Heap.get?_push_size (s.heap.push o) (o := { cls := .type "enumerate", data := .fields #[.none, .bool false, .ref s.heap.objs.size, rawInt 0, .none, .none] }) rfl
    rw [hz] at g
    exact g
  exact ⟨⟨_, he, rfl⟩, h _ he (Heap.get?_push_of_some _ (Heap.get?_push_size _ B.free)) fun b o x => Heap.get?_push_of_some _ (Heap.get?_push_of_some _ x)⟩
end
/-- the tuple at a, each item with its number in a new pair -/
def Itet (K : PySem.W.Frag) (a : Addr) : It where
  go := fun i H => ∃ (xs : List V) (x : V), SqT K H a xs ∧ xs[i]? = some x
  yld := fun i H v H' => ∃ T x, v = .ref T ∧ H T = none ∧ H' = upd H T (.tup [.int (i : Nat), x]) ∧ ∀ xs, SqT K H a xs → xs[i]? = some x
  stop := fun i H => ∃ xs : List V, SqT K H a xs ∧ xs.length = i
theorem turn_enumT {P : Program} {w : World} {K : PySem.W.Frag} {elts : List Expr} {kk : Nat} {tpos : Pos} (a e it : Addr) (hne : e ≠ it) (hat : a ≠ it) (hea : e ≠ a) :
    Turn P w K (.Tuple elts kk tpos) (Itet K a) [e, it] e (fun i h => (∃ old, IsEnum h e it ((i : Nat) : Int) old) ∧ h.IsTupleIter it a i) where
  mem := by simp
  obj := fun i h st b hb => by
    obtain ⟨⟨old, he⟩, ⟨o, ho, hc, hd⟩⟩ := st
    rcases (show b = e ∨ b = it by simpa using hb) with z | z
    · subst z
      exact ⟨_, he, fun v q => nomatch q⟩
    · subst z
      exact ⟨o, ho, fun v q => by rw [hd] at q; cases q⟩
  keep := fun i h h' st k => by
    obtain ⟨⟨old, he⟩, hi⟩ := st
    exact ⟨⟨old, k e (by simp) _ he⟩, hi.at fun o q => k it (by simp) o q⟩
  item := by
    intro X hP hw hK hc i pins s σ H E I hf st hg
    subst hP hw hK
    obtain ⟨⟨old, he⟩, hit⟩ := st
    obtain ⟨xs, x, hq, hx⟩ := hg
    obtain ⟨its, rv, p, hz⟩ := I.tuple hq
    obtain ⟨u, hu, ru⟩ := rv.get hx
    have hel : e < s.heap.objs.size := Heap.lt_size he
    have hil : it < s.heap.objs.size := by
      obtain ⟨_, q, _⟩ := hit
      exact Heap.lt_size q
    have hd : (X.A.in1).handled = none := I.ok.hd hc
    have hlt : i < its.toArray.size := by
      have := (List.getElem?_eq_some_iff.mp hu).1
      simpa using this
    refine wpAny_pyNext_enum_itemD (Draws.tuple hd it a hat its.toArray) he (i := i) ⟨hit, p⟩ hlt hne (by simp [hne, hea]) fun y h' tk hy ho st' hT hsz hk => ?_
    have ey : y = u := by
      have : its.toArray[i]? = some u := by simpa using hu
      rw [this] at hy
      exact (Option.some.inj hy).symm
    subst ey
    refine ⟨_, rfl, wpAny_letOwnedTupleGo_enum (s := { s with heap := h', toks := tk + 1 }) ho fun h'' he' sb => ?_⟩
    have hT2 : h''.get? s.heap.objs.size = some { cls := .type "tuple", data := .seq #[.int i tk, y] } := (sb.2 _ (Nat.ne_of_gt hel)).trans hT
    have new : ObjOk X.prog X.w (upd H s.heap.objs.size (.tup [.int (i : Nat), x])) h'' s.heap.objs.size (.tup [.int (i : Nat), x]) :=
      ⟨by show 2 ≤ sizeLine; decide, [.int i tk, y], .cons ⟨_, rfl⟩ (.cons ru .nil), ⟨_, hT2, rfl, _, rfl⟩⟩
    have I1 : Inv X pins σ (upd H s.heap.objs.size (.tup [.int (i : Nat), x])) { s with heap := h'', toks := tk + 1 } := by
      refine I.turnedNew (ch := [e, it]) (fun b ob hb q => ?_) hf (Nat.le_refl _) new
      have h1 : b ≠ e := fun z => hb (by simp [z])
      have h2 : b ≠ it := fun z => hb (by simp [z])
      exact (sb.2 b h1).trans (hk b ob h1 h2 q)
    refine ⟨.ref s.heap.objs.size, _, I1, rfl, ⟨_, x, rfl, I.hok.fresh (Nat.le_refl _), rfl, fun ys hy' => ?_⟩, ⟨⟨y, ?_⟩, st'.1.at fun o q => (sb.2 it (Ne.symm hne)).trans q⟩, fun b hb => ?_⟩
    · rw [I.tuple_inj hy' hq]
      exact hx
    · have e1 : ((i + 1 : Nat) : Int) = (i : Int) + 1 := by omega
      rw [e1]
      exact he'
    · have hb' : b < s.heap.objs.size := by
        rcases (show b = e ∨ b = it by simpa using hb) with z | z
        · rw [z]; exact hel
        · rw [z]; exact hil
      rw [upd_ne (Nat.ne_of_lt hb')]
      exact (hf b hb).1
  done := by
    intro X hP hw hK hc i pins s σ H E I hf st hg
    subst hP hw hK
    obtain ⟨⟨old, he⟩, hit⟩ := st
    obtain ⟨xs, hq, hx⟩ := hg
    obtain ⟨its, rv, p, hz⟩ := I.tuple hq
    obtain ⟨f0, f1, f2, f3, f4, f5⟩ := hf it (by simp)
    have hl := rv.length
    have hd : (X.A.in1).handled = none := I.ok.hd hc
    have ei : i = its.toArray.size := by
      rw [List.size_toArray]
      omega
    subst ei
    exact wpAny_pyNext_enum_endD (Draws.tuple hd it a hat its.toArray) he ⟨hit, p⟩ fun h' eb => ⟨rfl, I.turned (t' := s.toks) (fun b o hb q => eb b o hb q) f0 f1 f3 f4 f5⟩
  self := fun A i s Q E st h => by
    obtain ⟨⟨_, he⟩, _⟩ := st
    exact wpAny_pyIter_enum he h
def iEnumT (K : PySem.W.Frag) (ta : TA) : TI := fun σ H R => ta σ H fun vs H1 => ∃ a xs, vs = [.ref a] ∧ SqT K H1 a xs ∧ R (Itet K a) H1
theorem pi_enumT {X : Cx} {e : Expr} {ta : TA} {p pos tpos : Pos} {elts : List Expr} {kk : Nat} (hg : Gl X "enumerate") (hm : X.mg "enumerate" = none) (ha : PA X [e] ta)
    (hs : starEach [e] X.env = [(false, eval e X.env)] := by rfl) : PI X (.Tuple elts kk tpos) (.Call (.Name "enumerate" p) [e] [] pos) (iEnumT X.K ta) := by
  refine ⟨fun pins s σ H R I h => ?_⟩
  refine Call_ (ld_blt I hg hm boot_enumerate (PyProof.Rows.callWith_type1 (thn (ha.run pos pins s σ H _ I h) fun us s1 ⟨vs, H1, I1, r1, q1⟩ => ?_) hs rfl))
  obtain ⟨a, xs, ex, hq, q⟩ := q1
  subst ex
  cases r1 with
  | cons r rr =>
    cases rr
    cases r
    obtain ⟨its, rv, p', hz⟩ := I1.tuple hq
    have hal : a < s1.heap.objs.size := by
      obtain ⟨_, q', _⟩ := p'
      exact Heap.lt_size q'
    refine enum_call1 (begins_tuple a its.toArray) p' fun h' he hit hk => wpAny_pyIter_enum he ?_
    have I2 : Inv X pins σ H1 { s1 with heap := h' } := I1.kept (t' := s1.toks) hk
    refine ⟨s1.heap.objs.size + 1, [s1.heap.objs.size + 1, s1.heap.objs.size], _, _, H1, rfl, I2,
      turn_enumT a (s1.heap.objs.size + 1) s1.heap.objs.size (Nat.succ_ne_self _) (Nat.ne_of_lt hal) (Nat.ne_of_gt (Nat.lt_succ_of_lt hal)), ⟨⟨.none, he⟩, ⟨_, hit, rfl, rfl⟩⟩, fun b hb => ?_, q⟩
    have hle : s1.heap.objs.size ≤ b := by
      rcases (show b = s1.heap.objs.size + 1 ∨ b = s1.heap.objs.size by simpa using hb) with z | z
      · rw [z]; exact Nat.le_add_right _ _
      · rw [z]; exact Nat.le_refl _
    exact I1.fpOk hle (I1.hok.fresh hle)
theorem walk_enumT {K : PySem.W.Frag} {a : Addr} {xs : List V} : Walk (Itet K a) xs.length (fun H => SqT K H a xs) (YPair (fun i => some (.int (i : Nat))) (fun i => xs[i]?)) where
  goes := fun i H hi h => ⟨xs, xs[i], h, List.getElem?_eq_getElem hi⟩
  stops := fun H h => ⟨xs, h, rfl⟩
  yields := fun i H x H' hi h ⟨T, y, e1, e2, e3, e4⟩ => ⟨T, .int (i : Nat), y, e1, e2, e3, rfl, e4 xs h⟩
end Wr

set_option Elab.async false
set_option linter.all false
set_option maxRecDepth 100000
set_option maxHeartbeats 4000000
namespace Wr
open PySem PySem.Spec PyProof.Rows L2 Evl

/-! ### flat data -/
def flatP : PyData → Bool
  | .none => true
  | .bool _ => true
  | .int _ => true
  | .str _ => true
  | _ => false
def vOf : PyData → V
  | .bool b => .bl b
  | .int i => .int i
  | .str x => .str x
  | _ => .non
theorem dp_flat {K : PySem.W.Frag} {H : Hp} {v : V} {d : PyData} (h : Dd K H v d) (f : flatP d = true) : v = vOf d := by
  cases h with
  | non => rfl
  | bl b => rfl
  | int i => rfl
  | str x => rfl
  | lst _ _ => cases f
  | tup _ _ _ => cases f
theorem flat_dp {K : PySem.W.Frag} {H : Hp} {d : PyData} (f : flatP d = true) : Dd K H (vOf d) d := by
  cases d with
  | none => exact .non
  | bool b => exact .bl b
  | int i => exact .int i
  | str x => exact .str x
  | list _ => cases f
  | tuple _ => cases f
  | dict _ => cases f
theorem flats_dp {K : PySem.W.Frag} {H : Hp} : ∀ {ds : List PyData}, (∀ d ∈ ds, flatP d = true) → DdAll K H (ds.map vOf) ds
  | [], _ => .nil
  | d :: ds, f => .cons (flat_dp (f d List.mem_cons_self)) (flats_dp fun e he => f e (List.mem_cons_of_mem _ he))
theorem wipe_set1 {σ : L2.St} {n : Nat} {x : Option V} : wipe ((wipe σ [n]).set n x) [n] = wipe σ [n] := by
  show ((σ.set n none).set n x).set n none = σ.set n none
  rw [List.set_set, List.set_set]
section
variable {K : PySem.W.Frag} {b : List Addr} {σ : L2.St} {H H' : Hp} {ta te : TE} {tt : TT} {d : PyData} {ds : List PyData}
/-- a comprehension with one name, a test and flat items, over anything that is walked -/
theorem lc_flat {J : It} {n : Nat} {G : Hp → Prop} {xs : List V} {H2 : Hp} {k : Nat} {g : Nat → PyData} {p : Nat → Bool} (W : Walk J n G (YAt xs)) (hn : n = xs.length) (hl : n < sizeLine) (kn : Kn b H2) (hG : ∀ H3, Ex H2 H3 → G H3)
    (hp : ∀ i x H3, xs[i]? = some x → Ex H2 H3 → EvT tt ((wipe σ [k]).set k (some x)) H3 (p i))
    (he : ∀ i x H3, xs[i]? = some x → p i = true → Ex H2 H3 → ED K b te ((wipe σ [k]).set k (some x)) H3 (g i)) (hf : ∀ i, i < n → p i = true → flatP (g i) = true)
    {Q : VK} (q : ∀ v H3, Ex H2 H3 → Dq K b H3 v (.list (((List.range n).filter p).map g)) → Q v H3) (D : Addr) (hD : H2 D = none) :
    ∃ W : Nat → Nat → Hp → Prop, (∃ m, W 0 m (upd H2 D (.lst []))) ∧ ∀ i m H, W i m H →
      (J.stop i H ∧ Q (.ref D) H) ∨ (J.go i H ∧ ∃ Nx : Hp → Prop, (∀ H', Nx H' → ∃ m', m' < m ∧ W (i + 1) m' H') ∧ ∀ x H', J.yld i H x H' → gName k x (wipe σ [k]) H' fun σ2 H2 => wipe σ2 [k] = wipe σ [k] ∧ tt σ2 H2 fun b H3 =>
        if b = true then te σ2 H3 fun y H4 => ∃ acc, H4 D = some (.lst acc) ∧ acc.length < sizeLine ∧ Nx (upd H4 D (.lst (acc ++ [y]))) else Nx H3) := by
  refine lc_it W (fun i H3 => Ex H2 H3 ∧ H3 D = some (.lst ((((List.range i).filter p).map g).map vOf))) ⟨Ex.new hD, upd_same⟩ (fun i H3 _ h => hG H3 h.1) ?_ ?_
  · intro i x H3 H3' hi ⟨x3, e3⟩ ⟨e1, hx⟩
    subst e1
    refine ⟨wipe_set1, hp i x H3' hx x3 H3' (Ex.refl _) _ fun H4 x4 => ?_⟩
    have er : ∀ c, p i = c → (List.range (i + 1)).filter p = (List.range i).filter p ++ (if c = true then [i] else []) := fun c hc => by
      rw [List.range_succ, List.filter_append]
      cases c with
      | true => simp [hc]
      | false => simp [hc]
    cases hpi : p i with
    | false =>
      rw [if_neg Bool.false_ne_true]
      refine ⟨x3.trans x4, ?_⟩
      rw [er false hpi, if_neg Bool.false_ne_true, List.append_nil]
      exact x4 _ _ e3
    | true =>
      rw [if_pos rfl]
      refine he i x H4 hx hpi (x3.trans x4) H4 (Ex.refl _) _ fun y H5 x5 hy => ?_
      have ey := dp_flat hy (hf i hi hpi)
      refine ⟨_, x5 _ _ (x4 _ _ e3), ?_, Ex.mut (x3.trans (x4.trans x5)) hD, ?_⟩
      · rw [List.length_map, List.length_map]
        have := List.length_filter_le p (List.range i)
        rw [List.length_range] at this
        omega
      · rw [upd_same, er true hpi, if_pos rfl, List.map_append, List.map_append, ey]
        rfl
  · intro H3 ⟨x3, e3⟩
    refine q _ H3 x3 (.lst (.inl (.inl ?_)) (flats_dp fun d hd => ?_))
    · rw [hid_ne (kn.new hD)]
      exact e3
    · obtain ⟨i, hi, rfl⟩ := List.mem_map.mp hd
      obtain ⟨h1, h2⟩ := List.mem_filter.mp hi
      exact hf i (List.mem_range.mp h1) h2
theorem range_map {α β : Type} (xs : List α) (f : α → β) (g : Nat → β) (h : ∀ i x, xs[i]? = some x → g i = f x) : (List.range xs.length).map g = xs.map f := by
  apply List.ext_getElem?
  intro i
  rw [List.getElem?_map, List.getElem?_map]
  by_cases hi : i < xs.length
  · rw [List.getElem?_eq_getElem (by rw [List.length_range]; exact hi), List.getElem?_eq_getElem hi, List.getElem_range]
    simp [h i xs[i] (List.getElem?_eq_getElem hi)]
  · rw [List.getElem?_eq_none (by rw [List.length_range]; omega), List.getElem?_eq_none (by omega)]
    rfl
theorem range_filter_map {α β : Type} (f : α → β) (p : α → Bool) : ∀ (xs : List α) (g : Nat → β) (q : Nat → Bool), (∀ i x, xs[i]? = some x → q i = p x ∧ (p x = true → g i = f x)) → ((List.range xs.length).filter q).map g = (xs.filter p).map f
  | [], _, _, _ => rfl
  | x :: xs, g, q, h => by
    rw [List.length_cons, List.range_succ_eq_map, List.filter_cons]
    obtain ⟨h1, h2⟩ := h 0 x rfl
    have ih := range_filter_map f p xs (fun i => g (i + 1)) (fun i => q (i + 1)) fun i y hy => h (i + 1) y hy
    have e : ((List.range xs.length).map Nat.succ).filter q = ((List.range xs.length).filter fun i => q (i + 1)).map Nat.succ := by
      rw [List.filter_map]
      rfl
    have e2 : (((List.range xs.length).map Nat.succ).filter q).map g = (xs.filter p).map f := by
      rw [e, List.map_map, ← ih]
      rfl
    rw [h1, List.filter_cons]
    cases hp : p x with
    | true =>
      rw [if_pos rfl, if_pos rfl, List.map_cons, List.map_cons, e2, h2 hp]
    | false =>
      rw [if_neg Bool.false_ne_true, if_neg Bool.false_ne_true, e2]
/-- over a tuple, a list: no test -/
theorem et_yes : EvT tYes σ H true := fun H1 x Q q => q H1 (Ex.refl H1)
/-- over a tuple or a list: with a test; items flat -/
theorem ed_lcT {k : Nat} {f : PyData → PyData} {p : PyData → Bool} (kn : Kn b H) (ha : ED K b ta σ H (.tuple ds)) (hl : ds.length < sizeLine)
    (hp : ∀ d v H3, d ∈ ds → Ex H H3 → Dq K b H3 v d → EvT tt ((wipe σ [k]).set k (some v)) H3 (p d))
    (he : ∀ d v H3, d ∈ ds → p d = true → Ex H H3 → Dq K b H3 v d → ED K b te ((wipe σ [k]).set k (some v)) H3 (f d)) (hf : ∀ d ∈ ds, p d = true → flatP (f d) = true) :
    ED K b (tLc (iTup K ta) (gName k) tt te [k]) σ H (.list ((ds.filter p).map f)) := fun H1 x1 Q q =>
  ha H1 x1 _ fun x H2 x2 hx => by
    cases hx with
    | @tup a xs _ h1 _ h2 =>
      have hlen := dps_len h2
      have at_ : ∀ i x, xs[i]? = some x → ∃ d, ds[i]? = some d ∧ d ∈ ds ∧ Dq K b H2 x d := fun i x hx => by
        obtain ⟨d, g1, g2⟩ := dps_at h2 hx
        exact ⟨d, g1, List.mem_of_getElem? g1, g2⟩
      refine ⟨a, rfl, ⟨xs, ex_t hid_le h1⟩, lc_flat (K := K) (g := fun i => f (ds.getD i .none)) (p := fun i => p (ds.getD i .none)) walk_tup rfl (by rw [hlen]; exact hl) (kn.up (x1.trans x2)) (fun H3 x3 => ex_t x3 (ex_t hid_le h1)) ?_ ?_ ?_ ?_⟩
      · intro i x H3 hx x3
        obtain ⟨d, g1, g2, g3⟩ := at_ i x hx
        simp only [List.getD_eq_getElem?_getD, g1, Option.getD_some]
        exact hp d x H3 g2 ((x1.trans x2).trans x3) (g3.up x3)
      · intro i x H3 hx hpi x3
        obtain ⟨d, g1, g2, g3⟩ := at_ i x hx
        simp only [List.getD_eq_getElem?_getD, g1, Option.getD_some] at hpi ⊢
        exact he d x H3 g2 hpi ((x1.trans x2).trans x3) (g3.up x3)
      · intro i hi hpi
        have hi' : i < ds.length := by omega
        have g1 : ds[i]? = some ds[i] := List.getElem?_eq_getElem hi'
        simp only [List.getD_eq_getElem?_getD, g1, Option.getD_some] at hpi ⊢
        exact hf _ (List.getElem_mem hi') hpi
      · intro v H3 x3 hv
        refine q v H3 (x2.trans x3) ?_
        rw [hlen] at hv
        rw [range_filter_map f p ds _ _ fun i d hd => ⟨by simp only [List.getD_eq_getElem?_getD, hd, Option.getD_some], fun _ => by simp only [List.getD_eq_getElem?_getD, hd, Option.getD_some]⟩] at hv
        exact hv
theorem ed_lcL {k : Nat} {f : PyData → PyData} {p : PyData → Bool} (kn : Kn b H) (ha : ED K b ta σ H (.list ds)) (hl : ds.length < sizeLine)
    (hp : ∀ d v H3, d ∈ ds → Ex H H3 → Dq K b H3 v d → EvT tt ((wipe σ [k]).set k (some v)) H3 (p d))
    (he : ∀ d v H3, d ∈ ds → p d = true → Ex H H3 → Dq K b H3 v d → ED K b te ((wipe σ [k]).set k (some v)) H3 (f d)) (hf : ∀ d ∈ ds, p d = true → flatP (f d) = true) :
    ED K b (tLc (iList K ta) (gName k) tt te [k]) σ H (.list ((ds.filter p).map f)) := fun H1 x1 Q q =>
  ha H1 x1 _ fun x H2 x2 hx => by
    cases hx with
    | @lst a xs _ h1 h2 =>
      have hlen := dps_len h2
      have at_ : ∀ i x, xs[i]? = some x → ∃ d, ds[i]? = some d ∧ d ∈ ds ∧ Dq K b H2 x d := fun i x hx => by
        obtain ⟨d, g1, g2⟩ := dps_at h2 hx
        exact ⟨d, g1, List.mem_of_getElem? g1, g2⟩
      refine ⟨a, rfl, ⟨xs, ex_l hid_le h1⟩, lc_flat (K := K) (g := fun i => f (ds.getD i .none)) (p := fun i => p (ds.getD i .none)) walk_list rfl (by rw [hlen]; exact hl) (kn.up (x1.trans x2)) (fun H3 x3 => ex_l x3 (ex_l hid_le h1)) ?_ ?_ ?_ ?_⟩
      · intro i x H3 hx x3
        obtain ⟨d, g1, g2, g3⟩ := at_ i x hx
        simp only [List.getD_eq_getElem?_getD, g1, Option.getD_some]
        exact hp d x H3 g2 ((x1.trans x2).trans x3) (g3.up x3)
      · intro i x H3 hx hpi x3
        obtain ⟨d, g1, g2, g3⟩ := at_ i x hx
        simp only [List.getD_eq_getElem?_getD, g1, Option.getD_some] at hpi ⊢
        exact he d x H3 g2 hpi ((x1.trans x2).trans x3) (g3.up x3)
      · intro i hi hpi
        have hi' : i < ds.length := by omega
        have g1 : ds[i]? = some ds[i] := List.getElem?_eq_getElem hi'
        simp only [List.getD_eq_getElem?_getD, g1, Option.getD_some] at hpi ⊢
        exact hf _ (List.getElem_mem hi') hpi
      · intro v H3 x3 hv
        refine q v H3 (x2.trans x3) ?_
        rw [hlen] at hv
        rw [range_filter_map f p ds _ _ fun i d hd => ⟨by simp only [List.getD_eq_getElem?_getD, hd, Option.getD_some], fun _ => by simp only [List.getD_eq_getElem?_getD, hd, Option.getD_some]⟩] at hv
        exact hv
theorem filter_yes {α β : Type} (xs : List α) (f : α → β) : (xs.filter fun _ => true).map f = xs.map f := by
  rw [List.filter_eq_self.mpr fun _ _ => rfl]
theorem ed_lcT1 {k : Nat} {f : PyData → PyData} (kn : Kn b H) (ha : ED K b ta σ H (.tuple ds)) (hl : ds.length < sizeLine)
    (he : ∀ d v H3, d ∈ ds → Ex H H3 → Dq K b H3 v d → ED K b te ((wipe σ [k]).set k (some v)) H3 (f d)) (hf : ∀ d ∈ ds, flatP (f d) = true) :
    ED K b (tLc (iTup K ta) (gName k) tYes te [k]) σ H (.list (ds.map f)) :=
  (ed_lcT (p := fun _ => true) kn ha hl (fun _ _ _ _ _ _ => et_yes) (fun d v H3 h _ x hd => he d v H3 h x hd) fun d h _ => hf d h).to (by rw [filter_yes])
theorem ed_lcL1 {k : Nat} {f : PyData → PyData} (kn : Kn b H) (ha : ED K b ta σ H (.list ds)) (hl : ds.length < sizeLine)
    (he : ∀ d v H3, d ∈ ds → Ex H H3 → Dq K b H3 v d → ED K b te ((wipe σ [k]).set k (some v)) H3 (f d)) (hf : ∀ d ∈ ds, flatP (f d) = true) :
    ED K b (tLc (iList K ta) (gName k) tYes te [k]) σ H (.list (ds.map f)) :=
  (ed_lcL (p := fun _ => true) kn ha hl (fun _ _ _ _ _ _ => et_yes) (fun d v H3 h _ x hd => he d v H3 h x hd) fun d h _ => hf d h).to (by rw [filter_yes])
/-- over the signs of a text, with a test -/
theorem ed_lcS {k : Nat} {z : Str} {p : Nat → Bool} (hk : k < σ.length) (kn : Kn b H) (ha : ED K b ta σ H (.str z)) (hl : z.length < sizeLine)
    (hp : ∀ c H3, c ∈ z.cps.toList → Ex H H3 → EvT tt ((wipe σ [k]).set k (some (.str ⟨#[c]⟩))) H3 (p c)) :
    ED K b (tLc (iStr ta) (gName k) tt (tVar k) [k]) σ H (.list ((z.cps.toList.filter p).map fun c => .str ⟨#[c]⟩)) := fun H1 x1 Q q =>
  ha H1 x1 _ fun x H2 x2 hx => by
    cases hx
    have hsz : z.cps.size = (z.cps.toList.map fun c => V.str ⟨#[c]⟩).length := by rw [List.length_map, Array.length_toList]
    have wk : Walk (Its z) z.cps.size (fun _ => True) (YAt (z.cps.toList.map fun c => V.str ⟨#[c]⟩)) := walk_str.mono (fun _ _ => trivial) fun i H x H' _ _ ⟨e, c, h1, h2⟩ => ⟨e, by
      rw [List.getElem?_map, Array.getElem?_toList, h1, h2]
      rfl⟩
    have at_ : ∀ i x, (z.cps.toList.map fun c => V.str ⟨#[c]⟩)[i]? = some x → ∃ c, z.cps.toList[i]? = some c ∧ x = V.str ⟨#[c]⟩ := fun i x hx => by
      rw [List.getElem?_map] at hx
      cases e : z.cps.toList[i]? with
      | none => rw [e] at hx; cases hx
      | some c =>
        rw [e] at hx
        exact ⟨c, e, (Option.some.inj hx).symm⟩
    refine ⟨z, rfl, lc_flat (K := K) (g := fun i => .str ⟨#[z.cps.toList.getD i 0]⟩) (p := fun i => p (z.cps.toList.getD i 0)) wk hsz (show z.cps.size < _ from hl) (kn.up (x1.trans x2)) (fun _ _ => trivial) ?_ ?_ ?_ ?_⟩
    · intro i x H3 hx x3
      obtain ⟨c, g1, rfl⟩ := at_ i x hx
      simp only [List.getD_eq_getElem?_getD, g1, Option.getD_some]
      exact hp c H3 (List.mem_of_getElem? g1) ((x1.trans x2).trans x3)
    · intro i x H3 hx hpi x3
      obtain ⟨c, g1, rfl⟩ := at_ i x hx
      simp only [List.getD_eq_getElem?_getD, g1, Option.getD_some]
      refine ed_var ?_ (.str _)
      show ((σ.set k none).set k _)[k]? = _
      rw [List.getElem?_set_self (by rw [List.length_set]; exact hk)]
    · intro i hi _
      rfl
    · intro v H3 x3 hv
      refine q v H3 (x2.trans x3) ?_
      have e0 : z.cps.size = z.cps.toList.length := by rw [Array.length_toList]
      rw [e0] at hv
      rw [range_filter_map (fun c => PyData.str ⟨#[c]⟩) p z.cps.toList _ _ fun i d hd => ⟨by simp only [List.getD_eq_getElem?_getD, hd, Option.getD_some], fun _ => by simp only [List.getD_eq_getElem?_getD, hd, Option.getD_some]⟩] at hv
      exact hv
end
end Wr

set_option Elab.async false
set_option linter.all false
set_option maxRecDepth 100000
set_option maxHeartbeats 8000000
namespace Wr
open PySem PySem.Spec PyProof.Rows L2 Evl

/-! ### set(texts) -/
/-- each once, as first met -/
def uqStep (acc : List Str) (x : Str) : List Str := if x ∈ acc then acc else acc ++ [x]
def uq (xs : List Str) : List Str := xs.foldl uqStep []
theorem uq_snoc (xs : List Str) (x : Str) : uq (xs ++ [x]) = uqStep (uq xs) x := by
  unfold uq
  rw [List.foldl_append]
  rfl
theorem uq_le : ∀ (xs acc : List Str), (xs.foldl uqStep acc).length ≤ acc.length + xs.length
  | [], acc => Nat.le_refl _
  | x :: xs, acc => by
    have ih := uq_le xs (uqStep acc x)
    have h1 : (uqStep acc x).length ≤ acc.length + 1 := by
      unfold uqStep
      split
      · omega
      · rw [List.length_append]; exact Nat.le_refl _
    rw [List.foldl_cons, List.length_cons]
    omega
theorem uq_length_le (xs : List Str) : (uq xs).length ≤ xs.length := by
  have := uq_le xs []
  rw [List.length_nil, Nat.zero_add] at this
  exact this
theorem uq_mem_acc : ∀ (xs acc : List Str) (y : Str), y ∈ xs.foldl uqStep acc ↔ y ∈ acc ∨ y ∈ xs
  | [], acc, y => by simp
  | x :: xs, acc, y => by
    rw [List.foldl_cons, uq_mem_acc xs (uqStep acc x) y, List.mem_cons]
    unfold uqStep
    split
    · constructor
      · rintro (h | h)
        · exact .inl h
        · exact .inr (.inr h)
      · rintro (h | rfl | h)
        · exact .inl h
        · exact .inl (by assumption)
        · exact .inr h
    · rw [List.mem_append, List.mem_singleton]
      constructor
      · rintro ((h | h) | h)
        · exact .inl h
        · exact .inr (.inl h)
        · exact .inr (.inr h)
      · rintro (h | h | h)
        · exact .inl (.inl h)
        · exact .inl (.inr h)
        · exact .inr h
theorem uq_mem (xs : List Str) (y : Str) : y ∈ uq xs ↔ y ∈ xs := by
  unfold uq
  rw [uq_mem_acc]
  simp
theorem uq_nodup_acc : ∀ (xs acc : List Str), acc.Nodup → (xs.foldl uqStep acc).Nodup
  | [], acc, h => h
  | x :: xs, acc, h => by
    rw [List.foldl_cons]
    refine uq_nodup_acc xs _ ?_
    unfold uqStep
    split
    · exact h
    · rename_i hx
      rw [List.nodup_append]
      refine ⟨h, by simp, fun a ha c hc => ?_⟩
      rw [List.mem_singleton] at hc
      intro e
      exact hx (hc ▸ e ▸ ha)
theorem uq_nodup (xs : List Str) : (uq xs).Nodup := uq_nodup_acc xs [] List.nodup_nil
theorem uq_all : ∀ (xs acc : List Str), (acc ++ xs).Nodup → xs.foldl uqStep acc = acc ++ xs
  | [], acc, _ => by simp
  | x :: xs, acc, h => by
    rw [List.foldl_cons]
    have hx : x ∉ acc := fun hm => by
      rw [List.nodup_append] at h
      exact h.2.2 x hm x List.mem_cons_self rfl
    have e : uqStep acc x = acc ++ [x] := if_neg hx
    rw [e, uq_all xs (acc ++ [x]) (by rw [List.append_assoc]; exact h), List.append_assoc]
    rfl
/-- as many as there are, just where no text stands twice -/
theorem uq_len_iff (xs : List Str) : (uq xs).length = xs.length ↔ xs.Nodup := by
  constructor
  · intro h
    have h1 := uq_nodup xs
    have sub : ∀ y ∈ xs, y ∈ uq xs := fun y hy => (uq_mem xs y).mpr hy
    by_cases hn : xs.Nodup
    · exact hn
    · exfalso
      have key : ∀ (xs acc : List Str), ¬ xs.Nodup → (xs.foldl uqStep acc).length < acc.length + xs.length := by
        intro xs
        induction xs with
        | nil => intro acc h; exact absurd List.nodup_nil h
        | cons x r ih =>
          intro acc h
          rw [List.foldl_cons, List.length_cons]
          by_cases hx : x ∈ acc
          · have e : uqStep acc x = acc := if_pos hx
            rw [e]
            have := uq_le r acc
            omega
          · have e : uqStep acc x = acc ++ [x] := if_neg hx
            by_cases hr : r.Nodup
            · have hxr : x ∈ r := by
                by_cases q : x ∈ r
                · exact q
                · exact absurd (List.nodup_cons.mpr ⟨q, hr⟩) h
              have low : ∀ (r acc : List Str) (x : Str), x ∈ acc → x ∈ r → (r.foldl uqStep acc).length < acc.length + r.length := by
                intro r
                induction r with
                | nil => intro acc x _ hm; cases hm
                | cons y r ih2 =>
                  intro acc x ha hm
                  rw [List.foldl_cons, List.length_cons]
                  by_cases hy : y ∈ acc
                  · have e : uqStep acc y = acc := if_pos hy
                    rw [e]
                    have := uq_le r acc
                    omega
                  · have e : uqStep acc y = acc ++ [y] := if_neg hy
                    rcases List.mem_cons.mp hm with rfl | hm
                    · exact absurd ha hy
                    · have := ih2 (acc ++ [y]) x (List.mem_append_left _ ha) hm
                      rw [e]
                      rw [List.length_append, List.length_singleton] at this
                      omega
              rw [e]
              have := low r (acc ++ [x]) x (by simp) hxr
              rw [List.length_append, List.length_singleton] at this
              omega
            · have := ih (acc ++ [x]) hr
              rw [e]
              rw [List.length_append, List.length_singleton] at this
              omega
      have := key xs [] hn
      rw [List.length_nil, Nat.zero_add] at this
      unfold uq at h
      omega
  · intro h
    unfold uq
    rw [uq_all xs [] h]
    rfl
def inK (L : List Str) (k : Key) : Bool := L.any fun x => decide (k = Sum.inr x)
theorem inK_step (L : List Str) (x : Str) : (fun k => inK L k || decide (k = (Sum.inr x : Key))) = inK (uqStep L x) := by
  funext k
  unfold uqStep inK
  split
  · rename_i hx
    by_cases e : k = Sum.inr x
    · have : (L.any fun x => decide (k = Sum.inr x)) = true := List.any_eq_true.mpr ⟨x, hx, decide_eq_true e⟩
      rw [this]
      rfl
    · rw [decide_eq_false e, Bool.or_false]
  · rw [List.any_append]
    simp
theorem inK_self (L : List Str) (x : Str) : inK L (Sum.inr x) = decide (x ∈ L) := by
  unfold inK
  by_cases h : x ∈ L
  · rw [decide_eq_true h]
    exact List.any_eq_true.mpr ⟨x, h, decide_eq_true rfl⟩
  · rw [decide_eq_false h]
    apply Bool.eq_false_iff.mpr
    intro q
    obtain ⟨y, hy, e⟩ := List.any_eq_true.mp q
    have e1 := of_decide_eq_true e
    cases e1
    exact h hy
section
variable {prog : Program} {w : World} {A : Around} {R : Result → Shared → Prop} {I : Addr} {fp wr : List Addr} {G : Array GenState → Array GenState → Prop} {n : Nat} {P : Nat → Value → Prop} {St : Nat → Shared → Prop}
/-- the loop that fills a set of texts -/
theorem fill_texts (W : WalksS prog w A.in1 I fp wr G n P St) (S : Addr) (hSf : S ∉ fp) (xs : List Str) (hsz : xs.length = n) (hn1 : n + 1 < scanBound)
    (hval : ∀ i v, P i v → ∃ x t, xs[i]? = some x ∧ v = .str x t) : ∀ (k i : Nat) (s : Shared), n - i = k → i ≤ n → St i s →
      s.heap.SetOf (mixKind prog w) S (inK (uq (xs.take i))) (uq (xs.take i)).length →
      (∀ s', Moved (S :: wr) G s s' → s'.heap.SetOf (mixKind prog w) S (inK (uq xs)) (uq xs).length → R (.ok (.ret .none)) s') →
      codeAny (model prog w) A (.builtin "set.update.loop" ⟨[.ref S, .ref I], []⟩) R s := by
  have out : S ∉ wr := fun h => hSf (W.sub _ h)
  have more : ∀ c ∈ wr, c ∈ S :: wr := fun c hc => List.mem_cons_of_mem _ hc
  intro k
  induction k with
  | zero =>
    intro i s hk hi hst hS hR
    obtain rfl : i = n := by omega
    refine codeAny_builtin PyProof.Rows.F.entry_set_update_loop ?_
    rw [Around.under_plainId PyProof.Rows.F.plain_set_update_loop _]
    show wpAny _ A.in1 (pyNext (.ref I) >>= _) _ _ s
    refine wpAny_bind (W.done s _ _ hst fun s' hm => ?_)
    show wpAny _ A.in1 (ret Value.none) _ _ s'
    refine wpAny_pure (hR s' (hm.mono more) ?_)
    rw [List.take_of_length_le (by omega)] at hS
    obtain ⟨o, es, ep, t, ho, rest⟩ := hS
    exact ⟨o, es, ep, t, hm.heap S _ out ho, rest⟩
  | succ k ih =>
    intro i s hk hi hst hS hR
    have hlt : i < n := by omega
    refine codeAny_builtin PyProof.Rows.F.entry_set_update_loop ?_
    rw [Around.under_plainId PyProof.Rows.F.plain_set_update_loop _]
    show wpAny _ A.in1 (pyNext (.ref I) >>= _) _ _ s
    refine wpAny_bind (W.item i s _ _ hlt hst fun v s' hP hst' hm => ?_)
    obtain ⟨x, t, hx, rfl⟩ := hval i v hP
    have hS' : s'.heap.SetOf (mixKind prog w) S (inK (uq (xs.take i))) (uq (xs.take i)).length := by
      obtain ⟨o, es, ep, tb, ho, rest⟩ := hS
      exact ⟨o, es, ep, tb, hm.heap S _ out ho, rest⟩
    show wpAny _ A.in1 (holding [Value.str x t] (setAdd S (.str x t)) >>= _) _ _ s'
    refine wpAny_bind (wpAny_holding ?_)
    unfold setAdd
    refine wpAny_holding (wpAny_bind ((mixKind prog w).pyHash (k := Sum.inr x) (mixKind_str _ _ _ _) ?_))
    have room : (uq (xs.take i)).length + 1 < scanBound := by
      have h1 := uq_length_le (xs.take i)
      rw [List.length_take] at h1
      omega
    refine wpAny_setAddHashed_of (knd := mixKind prog w) (k := Sum.inr x) (s := { s' with toks := s'.toks + 1 }) (mixKind_str _ _ _ _) rfl hS' room fun h' hsb hS2 => ?_
    have et : xs.take (i + 1) = xs.take i ++ [x] := by
      rw [List.take_add_one, hx]
      rfl
    have hSi : h'.SetOf (mixKind prog w) S (inK (uq (xs.take (i + 1)))) (uq (xs.take (i + 1))).length := by
      rw [inK_step, inK_self] at hS2
      rw [et, uq_snoc]
      have el : (if decide (x ∈ uq (xs.take i)) = true then (uq (xs.take i)).length else (uq (xs.take i)).length + 1) = (uqStep (uq (xs.take i)) x).length := by
        unfold uqStep
        by_cases h : x ∈ uq (xs.take i)
        · rw [decide_eq_true h, if_pos rfl, if_pos h]
        · rw [decide_eq_false h, if_neg Bool.false_ne_true, if_neg h, List.length_append]
          rfl
      rw [el] at hS2
      exact hS2
    refine wpAny_pure ⟨plainId_quiet PyProof.Rows.F.plain_set_update_loop _, ih (i + 1) _ (by omega) hlt (W.frame _ s' _ _ hst' (Nat.le_succ _) fun c hc o e => ?_) hSi fun s'' hm'' hS'' => ?_⟩
    · have nc : c ≠ S := fun h => hSf (h ▸ hc)
      rw [hsb.2 c nc]
      exact e
    · refine hR s'' (Moved.trans W.gtrans ((hm.mono more).then_heap (Nat.le_succ _) fun c o hc e => ?_) hm'') hS''
      have nc : c ≠ S := fun h => hc (by rw [h]; exact List.mem_cons_self)
      rw [hsb.2 c nc]
      exact e
end
end Wr

set_option Elab.async false
set_option linter.all false
set_option maxRecDepth 100000
set_option maxHeartbeats 8000000
namespace Wr
open PySem PySem.Spec PyProof.Rows L2 Evl
abbrev freshSet (led : Bool) : Obj := { cls := .type "set", dict := none, data := .set #[] 0 (.fresh 0 0 led) }
section
variable {prog : Program} {w : World} {A : Around} {E : Value → Shared → Prop} {s : Shared}
/-- what set(v) asks of v: its type, its iterator -/
structure SetSrc (prog : Program) (w : World) (T : String) (l : Addr) (xs : List Str) (s : Shared) : Prop where
  sub1 : isSubtype (.type T) (.type "set") = pure false
  sub2 : isSubtype (.type T) (.type "frozenset") = pure false
  nd : (Value.type T == Value.type "dict") = false
  ob : ∃ o, s.heap.get? l = some o ∧ o.cls = .type T
  it : ∀ (A : Around) (led : Bool) (Q : Value → Shared → Prop) (E : Value → Shared → Prop), A.handled = none →
    (∀ (s2 : Shared) (I : Addr) (fp wr : List Addr) (G : Array GenState → Array GenState → Prop) (P : Nat → Value → Prop) (St : Nat → Shared → Prop), (∀ a, G a a) → (∀ a b, G a b → b = a) → WalksS prog w A.in1 I fp wr G xs.length P St → St 0 s2 →
      s.heap.objs.size ∉ fp → (∀ b o, (s.heap.push (freshSet led)).get? b = some o → s2.heap.get? b = some o) → (∀ b ∈ wr, s.heap.objs.size < b) →
      (∀ i v, P i v → ∃ x t, xs[i]? = some x ∧ v = .str x t) → s2.gens = s.gens ∧ s2.drawn = s.drawn ∧ s2.os = s.os → Q (.ref I) s2) →
    wpAny (model prog w) A (pyIter (.ref l)) Q E { s with heap := s.heap.push (freshSet led) }
theorem set_call {T : String} {l : Addr} {xs : List Str} {Q : Value → Shared → Prop} (hh : A.handled = none) (src : SetSrc prog w T l xs s) (hn : xs.length + 1 < scanBound)
    (h : ∀ (h' : Heap) (tk : Nat), h'.SetOf (mixKind prog w) s.heap.objs.size (inK (uq xs)) (uq xs).length →
      (∀ b o, b < s.heap.objs.size → s.heap.get? b = some o → h'.get? b = some o) → Q (.ref s.heap.objs.size) { s with heap := h', toks := tk }) :
    wpAny (model prog w) A (call (.type "set") [.ref l]) Q E s := by
  obtain ⟨c, tl, hmro⟩ := PySem.F.called_set.mro
  have m1 := PySem.F.called_set.made
  have m2 := PySem.F.called_set.sub
  refine wpAny_call (codeAny_of_tree ?_)
  show wpAny _ _ (callAny (.type "set") _) _ _ _
  refine wpAny_pure ⟨Code.quiet_builtin _ (by decide +kernel), codeAny_builtin PySem.F.entry_type_call ?_⟩
  rw [Around.under_plain (weight_type_call_type "set" [.ref l] []) rfl]
  have m3 := PySem.F.called_set.notType
  have m4 := PySem.F.called_set.canCreate
  have m5 := PySem.F.typeCall_set_1 (.ref l)
  repeat (any_goals (first | assumption | wp_step))
  refine codeAny_mono (code_set_new_1 (.ref l) (E := E) (Q₁ := fun obj s₁ => ∃ led : Bool, obj = .ref s.heap.objs.size ∧
    s₁ = { s with heap := s.heap.push (freshSet led) }) fun led => ⟨led, rfl, rfl⟩) fun r s₁ hr => ?_
  cases r with
  | error e => exact hr
  | ok fl =>
    cases fl with
    | ret obj =>
      obtain ⟨led, rfl, rfl⟩ := hr
      have hS : (s.heap.push (freshSet led)).get? s.heap.objs.size = some (freshSet led) := Heap.get?_push_size _ rfl
      have hT : Shared.TypeIs { s with heap := s.heap.push (freshSet led) } (.ref s.heap.objs.size) "set" := ⟨_, hS, rfl⟩
      have m6 := PySem.F.called_set.init.lookup
      have m7 := PySem.F.called_set.init.bind (.ref s.heap.objs.size)
      repeat (any_goals (first | assumption | wp_step))
      refine codeAny_mono (codeAny_call_builtin (R := wants (fun r s₂ => r = .none ∧ ∃ h' tk, s₂ = { s with heap := h', toks := tk } ∧
          h'.SetOf (mixKind prog w) s.heap.objs.size (inK (uq xs)) (uq xs).length ∧ ∀ b o, b < s.heap.objs.size → s.heap.get? b = some o → h'.get? b = some o) E)
        PySem.F.called_set.init.plain PySem.F.entry_set_init (check_set_init_1 hT ?_)) fun r₂ s₂ hr₂ => ?_
      · obtain ⟨⟨ocls, odict, odata, oslots⟩, hol, hcl⟩ := src.ob
        simp only at hcl
        subst hcl
        have hol' : (s.heap.push (freshSet led)).get? l = some { cls := .type T, dict := odict, data := odata, slots := oslots } := Heap.get?_push_of_some _ hol
        have m8 := src.sub1
        have m9 := src.sub2
        have m10 := src.nd
        unfold Builtin.«set.__init__» noKeywords Builtin.Frozenset.updateFrom
        generalize hPI : pyIter = PI
        wp_walk
        subst hPI
        refine src.it _ led _ _ (by simp [hh]) fun s2 I fp wr G P St g1 g2 W st hS2 k2 hw hval hsame => ?_
        refine wpAny_bind (wpAny_runValue ?_)
        refine fill_texts W s.heap.objs.size hS2 xs rfl hn hval (xs.length - 0) 0 _ (by omega) (Nat.zero_le _) st ?hS0 ?hR
        case hS0 =>
          have g0 : s2.heap.get? s.heap.objs.size = some (freshSet led) := k2 _ _ hS
          show s2.heap.SetOf (mixKind prog w) s.heap.objs.size (fun _ => false) 0
          exact ⟨_, #[], 0, _, g0, ⟨rfl, rfl, rfl⟩, rfl, fun e he => by simp at he, fun k => by simp, by decide, by rfl, rfl⟩
        case hR =>
          intro s' hm hS'
          obtain ⟨hp', g', d', tk', os'⟩ := s'
          obtain ⟨q1, q2, q3⟩ := hsame
          have eg : g' = s.gens := (g2 _ _ hm.gens).trans q1
          have ed : d' = s.drawn := hm.drawn.trans q2
          have eo : os' = s.os := hm.os.trans q3
          subst eg ed eo
          refine wpAny_pure ?_
          show wpAny _ _ (ret Value.none) _ _ _
          refine wpAny_pure ⟨rfl, hp', tk', rfl, hS', fun b o hb e => ?_⟩
          refine hm.heap b o (fun hmem => ?_) (k2 b o (Heap.get?_push_of_some _ e))
          rcases List.mem_cons.mp hmem with z | z
          · exact absurd (z ▸ hb) (Nat.lt_irrefl _)
          · exact absurd (hw b z) (Nat.not_lt.mpr (Nat.le_of_lt hb))
      · cases r₂ with
        | error e => exact hr₂
        | ok fl₂ =>
          cases fl₂ with
          | ret r =>
            obtain ⟨rfl, h', tk, rfl, hS', hk'⟩ := hr₂
            repeat (any_goals (first | assumption | wp_step))
            exact h _ _ hS' hk'
          | _ => exact hr₂.elim
    | _ => exact hr.elim
end
end Wr

set_option Elab.async false
set_option linter.all false
set_option maxRecDepth 100000
set_option maxHeartbeats 8000000
namespace Wr
open PySem PySem.Spec PyProof.Rows L2 Evl
theorem strs_val : ∀ {xs : List Str} {us : List Value} {i : Nat} {v : Value}, Vals (xs.map V.str) us → us[i]? = some v → ∃ x t, xs[i]? = some x ∧ v = .str x t
  | [], _, i, v, .nil, h => by simp at h
  | x :: xs, _, 0, v, .cons r _, h => by
    obtain ⟨t, e⟩ := r
    have h' := Option.some.inj h
    exact ⟨x, t, rfl, by rw [← h', e]⟩
  | x :: xs, _, i + 1, v, .cons _ r, h => by
    obtain ⟨y, t, h1, h2⟩ := strs_val r (i := i) (v := v) h
    exact ⟨y, t, h1, h2⟩
section
variable {prog : Program} {w : World} {A : Around} {E : Value → Shared → Prop} {s : Shared}
theorem src_list {l : Addr} {items : Array Value} {xs : List Str} (hl : s.heap.IsList l items) (hi : Vals (xs.map V.str) items.toList) : SetSrc prog w "list" l xs s where
  sub1 := PySem.F.sub_list_set
  sub2 := PySem.F.sub_list_frozenset
  nd := by decide
  ob := by
    obtain ⟨o, ho, hc, _⟩ := hl
    exact ⟨o, ho, hc⟩
  it := fun A led Q E hh k => by
    have hl1 : (s.heap.push (freshSet led)).IsList l items := by
      obtain ⟨o, ho, r⟩ := hl
      exact ⟨o, Heap.get?_push_of_some _ ho, r⟩
    have hls : l < s.heap.objs.size := by
      obtain ⟨o, ho, _⟩ := hl
      exact Heap.lt_size ho
    refine wpAny_pyIter_list hl1 ?_
    have hz : (s.heap.push (freshSet led)).objs.size = s.heap.objs.size + 1 := Heap.size_push ..
    have hne : l ≠ (s.heap.push (freshSet led)).objs.size := by
      rw [hz]
      exact Nat.ne_of_lt (Nat.lt_succ_of_lt hls)
    have hlen : xs.length = items.size := by
      have := hi.length
      rw [List.length_map, Array.length_toList] at this
      exact this
    have W := ((Walks.list (prog := prog) (w := w) (A := A.in1) hh _ l hne items).toS)
    rw [← hlen] at W
    refine k _ _ _ _ (fun a b => b = a) _ _ (fun _ => rfl) (fun _ _ e => e) W ?_ ?_ (fun b o e => Heap.get?_push_of_some _ e) ?_ ?_ ⟨rfl, rfl, rfl⟩
    · exact ⟨⟨_, Heap.get?_push_size _ rfl, rfl, rfl⟩, hl1.push _⟩
    · rw [hz]
      simp only [List.mem_cons, List.not_mem_nil, or_false, not_or]
      exact ⟨Nat.ne_of_lt (Nat.lt_succ_self _), Nat.ne_of_gt hls⟩
    · intro b hb
      rw [hz] at hb
      rw [List.mem_singleton.mp hb]
      exact Nat.lt_succ_self _
    · intro i v hv
      have hv' : items.toList[i]? = some v := by
        rw [Array.getElem?_toList]
        exact hv
      exact strs_val hi hv'
theorem src_tuple {l : Addr} {items : Array Value} {xs : List Str} (hl : s.heap.IsTuple l items) (hi : Vals (xs.map V.str) items.toList) : SetSrc prog w "tuple" l xs s where
  sub1 := PySem.F.sub_tuple_set
  sub2 := PySem.F.sub_tuple_frozenset
  nd := by decide
  ob := by
    obtain ⟨o, ho, hc, _⟩ := hl
    exact ⟨o, ho, hc⟩
  it := fun A led Q E hh k => by
    have hl1 : (s.heap.push (freshSet led)).IsTuple l items := by
      obtain ⟨o, ho, r⟩ := hl
      exact ⟨o, Heap.get?_push_of_some _ ho, r⟩
    have hls : l < s.heap.objs.size := by
      obtain ⟨o, ho, _⟩ := hl
      exact Heap.lt_size ho
    refine wpAny_pyIter_tuple hl1 ?_
    have hz : (s.heap.push (freshSet led)).objs.size = s.heap.objs.size + 1 := Heap.size_push ..
    have hne : l ≠ (s.heap.push (freshSet led)).objs.size := by
      rw [hz]
      exact Nat.ne_of_lt (Nat.lt_succ_of_lt hls)
    have hlen : xs.length = items.size := by
      have := hi.length
      rw [List.length_map, Array.length_toList] at this
      exact this
    have W := ((Walks.tuple (prog := prog) (w := w) (A := A.in1) hh _ l hne items).toS)
    rw [← hlen] at W
    refine k _ _ _ _ (fun a b => b = a) _ _ (fun _ => rfl) (fun _ _ e => e) W ?_ ?_ (fun b o e => Heap.get?_push_of_some _ e) ?_ ?_ ⟨rfl, rfl, rfl⟩
    · exact ⟨⟨_, Heap.get?_push_size _ rfl, rfl, rfl⟩, hl1.push _⟩
    · rw [hz]
      simp only [List.mem_cons, List.not_mem_nil, or_false, not_or]
      exact ⟨Nat.ne_of_lt (Nat.lt_succ_self _), Nat.ne_of_gt hls⟩
    · intro b hb
      rw [hz] at hb
      rw [List.mem_singleton.mp hb]
      exact Nat.lt_succ_self _
    · intro i v hv
      have hv' : items.toList[i]? = some v := by
        rw [Array.getElem?_toList]
        exact hv
      exact strs_val hi hv'
end
/-! ### the rules -/
def rSetS (K : PySem.W.Frag) (P : Program) (w : World) : List V → Hp → VK → Prop := fun vs H Q => ∃ l, ∃ xs : List Str, vs = [.ref l] ∧ (SqL K H l (xs.map V.str) ∨ SqT K H l (xs.map V.str)) ∧ xs.length ≤ 1000 ∧
  ∀ p, H p = none → Q (.ref p) (upd H p (SetK P w p (inK (uq xs)) (uq xs).length))
theorem cr_setS {X : Cx} (hc : X.calm = true) : CallR X (.type "set") (rSetS X.K X.prog X.w) := by
  intro pins s σ H vs us Q I r h
  obtain ⟨l, xs, rfl, hq, hl, q⟩ := h
  rw [Vals.ref1 r]
  have hsc : xs.length + 1 < scanBound := by unfold scanBound; omega
  have fin : ∀ (h' : Heap) (tk : Nat), h'.SetOf (mixKind X.prog X.w) s.heap.objs.size (inK (uq xs)) (uq xs).length →
      (∀ b o, b < s.heap.objs.size → s.heap.get? b = some o → h'.get? b = some o) → EP X pins σ Q (.ref s.heap.objs.size) { s with heap := h', toks := tk } := fun h' tk new k =>
    ⟨.ref _, upd H s.heap.objs.size (SetK X.prog X.w s.heap.objs.size (inK (uq xs)) (uq xs).length), I.laid (t' := tk) (fun b u e => k b u (Heap.lt_size e) e) (Nat.le_refl _) (setK_new new), rfl, q _ (I.hok.fresh (Nat.le_refl _))⟩
  rcases hq with hq | hq
  · obtain ⟨its, rv, pl, hz⟩ := I.list hq
    exact set_call (I.ok.hd hc) (src_list pl.isList (by simpa using rv)) hsc fin
  · obtain ⟨its, rv, pl, hz⟩ := I.tuple hq
    exact set_call (I.ok.hd hc) (src_tuple pl (by simpa using rv)) hsc fin
def rLenK (P : Program) (w : World) : List V → Hp → VK → Prop := fun vs H Q => ∃ a S n, vs = [.ref a] ∧ H a = some (SetK P w a S n) ∧ n ≤ 1000000 ∧ Q (.int (n : Nat)) H
theorem call_lenK {X : Cx} : CallR X (.builtin "len") (rLenK X.prog X.w) := by
  intro pins s σ H vs us Q I r h
  obtain ⟨a, S, n, rfl, ha, hn, q⟩ := h
  rw [Vals.ref1 r]
  obtain ⟨o, es, ep, t, ho, hex, hd, _, _, _, hf, hn'⟩ := setK_get I ha
  refine call_len_set ho hex hd hf (by rw [hn']; omega) ⟨.int (n : Nat), H, I.tok _, ⟨_, by rw [hn']⟩, q⟩
section
variable {K : PySem.W.Frag} {b : List Addr} {σ : L2.St} {H H' : Hp} {ta : TE} {P : Program} {w : World}
theorem ed_lenSet {d : PyData} {xs : List Str} (ha : ED K b ta σ H d) (hd : d = .list (xs.map PyData.str) ∨ d = .tuple (xs.map PyData.str)) (hl : xs.length ≤ 1000) :
    ED K b (tCB (rLenK P w) (tCons (tCB (rSetS K P w) (tCons ta tNil)) tNil)) σ H (.int ((uq xs).length : Nat)) := fun H1 x1 Q q =>
  ha H1 x1 _ fun x H2 x2 hx => by
    have hx' := hx.dd
    have fin : ∀ a, (SqL K H2 a (xs.map V.str) ∨ SqT K H2 a (xs.map V.str)) → x = .ref a → tCB (rLenK P w) (tCons (tCB (rSetS K P w) (tCons (tC x) tNil)) tNil) σ H2 Q := fun a hs e => by
      subst e
      refine ⟨a, xs, rfl, hs, hl, fun p hp => ⟨p, _, _, rfl, upd_same, ?_, q _ _ (x2.trans (Ex.new hp)) (.int _)⟩⟩
      have := uq_length_le xs
      omega
    rcases hd with rfl | rfl
    · cases hx' with
      | lst h1 h2 =>
        rw [dps_strs h2] at h1
        exact fin _ (.inl h1) rfl
    · cases hx' with
      | tup h1 _ h2 =>
        rw [dps_strs h2] at h1
        exact fin _ (.inr h1) rfl
end
end Wr

set_option Elab.async false
set_option linter.all false
set_option maxRecDepth 100000
set_option maxHeartbeats 4000000
namespace Wr
open PySem PySem.Spec PyProof.Rows L2 Evl
theorem pe_tyN {X : Cx} {x : Str} {T : String} {pos : Pos} (hg : Gl X x) (hm : X.mg x = none) (hv : bootBuiltins x = some (.type T)) (hn : x ≠ "__name__" := by decide) (hd : (x == ("__debug__" : Str)) = false := by decide) : PE X (.Name x pos) (tC (.ty T)) := pe_bltn hg hm hv rfl hn hd
theorem bt_int : bootBuiltins "int" = some (.type "int") := by decide +kernel
theorem bt_bool : bootBuiltins "bool" = some (.type "bool") := by decide +kernel
theorem bt_str : bootBuiltins "str" = some (.type "str") := by decide +kernel
theorem bt_tuple : bootBuiltins "tuple" = some (.type "tuple") := by decide +kernel
theorem bt_list : bootBuiltins "list" = some (.type "list") := by decide +kernel
theorem bt_set : bootBuiltins "set" = some (.type "set") := by decide +kernel
theorem bb_isinstance : bootBuiltins "isinstance" = some (.builtin "isinstance") := by decide +kernel
theorem bb_len : bootBuiltins "len" = some (.builtin "len") := by decide +kernel
theorem bb_all : bootBuiltins "all" = some (.builtin "all") := by decide +kernel
theorem bb_abs : bootBuiltins "abs" = some (.builtin "abs") := by decide +kernel
theorem bb_max : bootBuiltins "max" = some (.builtin "max") := by decide +kernel
theorem bb_min : bootBuiltins "min" = some (.builtin "min") := by decide +kernel
theorem bb_repr : bootBuiltins "repr" = some (.builtin "repr") := by decide +kernel
theorem bb_sorted : bootBuiltins "sorted" = some (.builtin "sorted") := by decide +kernel
/-- what a def of one, two, three, four data takes -/
theorem one_of {K : PySem.W.Frag} {H : Hp} {vs : List V} {ds : List PyData} (h : DdAll K H vs ds) (hl : ds.length = 1) : ∃ v d, vs = [v] ∧ ds = [d] ∧ Dd K H v d := by
  match ds, hl, h with
  | [d], _, .cons h1 .nil => exact ⟨_, d, rfl, rfl, h1⟩
theorem two_of {K : PySem.W.Frag} {H : Hp} {vs : List V} {ds : List PyData} (h : DdAll K H vs ds) (hl : ds.length = 2) : ∃ v v2 d d2, vs = [v, v2] ∧ ds = [d, d2] ∧ Dd K H v d ∧ Dd K H v2 d2 := by
  match ds, hl, h with
  | [d, d2], _, .cons h1 (.cons h2 .nil) => exact ⟨_, _, d, d2, rfl, rfl, h1, h2⟩
theorem four_of {K : PySem.W.Frag} {H : Hp} {vs : List V} {ds : List PyData} (h : DdAll K H vs ds) (hl : ds.length = 4) : ∃ v v2 v3 v4 d d2 d3 d4, vs = [v, v2, v3, v4] ∧ ds = [d, d2, d3, d4] ∧ Dd K H v d ∧ Dd K H v2 d2 ∧ Dd K H v3 d3 ∧ Dd K H v4 d4 := by
  match ds, hl, h with
  | [d, d2, d3, d4], _, .cons h1 (.cons h2 (.cons h3 (.cons h4 .nil))) => exact ⟨_, _, _, _, d, d2, d3, d4, rfl, rfl, h1, h2, h3, h4⟩
theorem spP_len {K : PySem.W.Frag} {n : Nat} {pre : List PyData → Prop} {f : List PyData → PyData} (hl : ∀ ds, pre ds → ds.length = n) {vs : List V} {H : Hp} {Q : VK} {E : XK} (h : spP K pre f vs H Q E) : vs.length = n := by
  obtain ⟨b, ds, _, hd, hp, _⟩ := h
  rw [dps_len hd, hl ds hp]
/-- data that are small enough to be looked at -/
structure Nice (d : PyData) : Prop where
  sh : SeqAt.shaped d = true
end Wr

set_option Elab.async false
set_option linter.all false
set_option maxRecDepth 100000
set_option maxHeartbeats 4000000
namespace Wr
open PySem PySem.Spec PyProof.Rows L2 Evl
/-! ### data within bounds -/
def okD : Nat → PyData → Bool
  | _, .none => true
  | _, .bool _ => true
  | _, .int i => decide (i.natAbs < 10 ^ 45)
  | _, .str x => PyData.strOk x && decide (x.length ≤ 1000)
  | n + 1, .list ds => decide (ds.length ≤ 1000) && ds.all (okD n)
  | n + 1, .tuple ds => decide (ds.length ≤ 1000) && ds.all (okD n)
  | _, _ => false
theorem lay_all : ∀ {ds : List PyData}, (∀ d ∈ ds, d.canLay0 = true) → PyData.canLayAll0 ds = true
  | [], _ => by simp only [PyData.canLayAll0]
  | d :: ds, h => by
    simp only [PyData.canLayAll0, h d List.mem_cons_self, lay_all fun e he => h e (List.mem_cons_of_mem _ he), Bool.and_self]
theorem depth_all {n : Nat} : ∀ {ds : List PyData}, (∀ d ∈ ds, d.depth ≤ n) → PyData.depthAll ds ≤ n
  | [], _ => by simp only [PyData.depthAll]; exact Nat.zero_le _
  | d :: ds, h => by
    have h1 := h d List.mem_cons_self
    have h2 := depth_all fun e he => h e (List.mem_cons_of_mem _ he)
    simp only [PyData.depthAll]
    omega
theorem show_all : ∀ {ds : List PyData}, (∀ d ∈ ds, d.showable = true) → PyData.showableAll ds = true
  | [], _ => by simp only [PyData.showableAll]
  | d :: ds, h => by
    simp only [PyData.showableAll, h d List.mem_cons_self, show_all fun e he => h e (List.mem_cons_of_mem _ he), Bool.and_self]
theorem log_small {i : Int} (h : i.natAbs < 10 ^ 45) : i.natAbs.log2 < 1920 := by
  by_cases h0 : i.natAbs = 0
  · rw [h0]; decide
  · have h1 : i.natAbs < 2 ^ 1920 := Nat.lt_trans h (by decide)
    exact (Nat.log2_lt h0).mpr h1
theorem ok_facts : ∀ (n : Nat) (d : PyData), okD n d = true → d.canLay0 = true ∧ d.depth ≤ n ∧ d.showable = true
  | _, .none, _ => by refine ⟨by simp only [PyData.canLay0], by simp only [PyData.depth]; exact Nat.zero_le _, by simp only [PyData.showable]⟩
  | _, .bool _, _ => by refine ⟨by simp only [PyData.canLay0], by simp only [PyData.depth]; exact Nat.zero_le _, by simp only [PyData.showable]⟩
  | n, .int i, h => by
    refine ⟨by simp only [PyData.canLay0], by simp only [PyData.depth]; exact Nat.zero_le _, ?_⟩
    have h' : decide (i.natAbs < 10 ^ 45) = true := by
      cases n <;> exact h
    simp only [PyData.showable]
    exact decide_eq_true (log_small (of_decide_eq_true h'))
  | n, .str x, h => by
    have h' : (PyData.strOk x && decide (x.length ≤ 1000)) = true := by cases n <;> exact h
    refine ⟨?_, by simp only [PyData.depth]; exact Nat.zero_le _, by simp only [PyData.showable]⟩
    simp only [PyData.canLay0]
    exact (Bool.and_eq_true_iff.mp h').1
  | 0, .list ds, h => by cases h
  | 0, .tuple ds, h => by cases h
  | n + 1, .list ds, h => by
    have h' := List.all_eq_true.mp (Bool.and_eq_true_iff.mp (show (decide (ds.length ≤ 1000) && ds.all (okD n)) = true from h)).2
    have q := fun d hd => ok_facts n d (h' d hd)
    refine ⟨?_, ?_, ?_⟩
    · simp only [PyData.canLay0]
      exact lay_all fun d hd => (q d hd).1
    · simp only [PyData.depth]
      exact Nat.succ_le_succ (depth_all fun d hd => (q d hd).2.1)
    · simp only [PyData.showable]
      exact show_all fun d hd => (q d hd).2.2
  | n + 1, .tuple ds, h => by
    have h' := List.all_eq_true.mp (Bool.and_eq_true_iff.mp (show (decide (ds.length ≤ 1000) && ds.all (okD n)) = true from h)).2
    have q := fun d hd => ok_facts n d (h' d hd)
    refine ⟨?_, ?_, ?_⟩
    · simp only [PyData.canLay0]
      exact lay_all fun d hd => (q d hd).1
    · simp only [PyData.depth]
      exact Nat.succ_le_succ (depth_all fun d hd => (q d hd).2.1)
    · simp only [PyData.showable]
      exact show_all fun d hd => (q d hd).2.2
  | 0, .dict _, h => by cases h
  | _ + 1, .dict _, h => by cases h
theorem ok_shaped {n : Nat} {d : PyData} (h : okD n d = true) (hn : n ≤ 64 := by omega) : SeqAt.shaped d = true := by
  obtain ⟨h1, h2, _⟩ := ok_facts n d h
  show (d.canLay0 && decide (d.depth ≤ 64)) = true
  rw [h1, decide_eq_true (by omega)]
  rfl
theorem ok_items {n : Nat} {ds : List PyData} (h : okD (n + 1) (.tuple ds) = true) : ∀ d ∈ ds, okD n d = true :=
  List.all_eq_true.mp (Bool.and_eq_true_iff.mp (show (decide (ds.length ≤ 1000) && ds.all (okD n)) = true from h)).2
theorem ok_itemsL {n : Nat} {ds : List PyData} (h : okD (n + 1) (.list ds) = true) : ∀ d ∈ ds, okD n d = true :=
  List.all_eq_true.mp (Bool.and_eq_true_iff.mp (show (decide (ds.length ≤ 1000) && ds.all (okD n)) = true from h)).2
theorem ok_len {n : Nat} {ds : List PyData} (h : okD n (.tuple ds) = true) : ds.length ≤ 1000 := by
  cases n with
  | zero => cases h
  | succ n => exact of_decide_eq_true (Bool.and_eq_true_iff.mp (show (decide (ds.length ≤ 1000) && ds.all (okD n)) = true from h)).1
theorem ok_lenL {n : Nat} {ds : List PyData} (h : okD n (.list ds) = true) : ds.length ≤ 1000 := by
  cases n with
  | zero => cases h
  | succ n => exact of_decide_eq_true (Bool.and_eq_true_iff.mp (show (decide (ds.length ≤ 1000) && ds.all (okD n)) = true from h)).1
theorem ok_str {n : Nat} {x : Str} (h : okD n (.str x) = true) : x.length ≤ 1000 := by
  have h' : (PyData.strOk x && decide (x.length ≤ 1000)) = true := by cases n <;> exact h
  exact of_decide_eq_true (Bool.and_eq_true_iff.mp h').2
theorem ok_mono : ∀ (n : Nat) (d : PyData), okD n d = true → okD (n + 1) d = true
  | _, .none, _ => rfl
  | _, .bool _, _ => rfl
  | n, .int i, h => by cases n <;> exact h
  | n, .str x, h => by cases n <;> exact h
  | 0, .list ds, h => by cases h
  | 0, .tuple ds, h => by cases h
  | n + 1, .list ds, h => by
    have h' : (decide (ds.length ≤ 1000) && ds.all (okD n)) = true := h
    show (decide (ds.length ≤ 1000) && ds.all (okD (n + 1))) = true
    rw [Bool.and_eq_true] at h' ⊢
    exact ⟨h'.1, List.all_eq_true.mpr fun d hd => ok_mono n d (List.all_eq_true.mp h'.2 d hd)⟩
  | n + 1, .tuple ds, h => by
    have h' : (decide (ds.length ≤ 1000) && ds.all (okD n)) = true := h
    show (decide (ds.length ≤ 1000) && ds.all (okD (n + 1))) = true
    rw [Bool.and_eq_true] at h' ⊢
    exact ⟨h'.1, List.all_eq_true.mpr fun d hd => ok_mono n d (List.all_eq_true.mp h'.2 d hd)⟩
  | 0, .dict _, h => by cases h
  | _ + 1, .dict _, h => by cases h
theorem ok_up {n m : Nat} {d : PyData} (h : okD n d = true) (hm : n ≤ m) : okD m d = true := by
  obtain ⟨k, rfl⟩ := Nat.exists_eq_add_of_le hm
  induction k with
  | zero => exact h
  | succ k ih => exact ok_mono _ _ (ih (Nat.le_add_right _ _))
theorem isD_tuple {d : PyData} (h : isD "tuple" d = true) : ∃ ds, d = .tuple ds := by
  cases d <;> first | exact ⟨_, rfl⟩ | (simp [isD, dTy, tyIs] at h)
theorem isD_list {d : PyData} (h : isD "list" d = true) : ∃ ds, d = .list ds := by
  cases d <;> first | exact ⟨_, rfl⟩ | (simp [isD, dTy, tyIs] at h)
theorem isD_str {d : PyData} (h : isD "str" d = true) : ∃ x, d = .str x := by
  cases d <;> first | exact ⟨_, rfl⟩ | (simp [isD, dTy, tyIs] at h)
/-! ### the program's own functions, on data -/
def wholeD (d : PyData) : Bool := isD "int" d && !isD "bool" d
theorem wholeD_int {d : PyData} (h : wholeD d = true) : ∃ i, d = .int i := by
  cases d <;> first | exact ⟨_, rfl⟩ | (simp [wholeD, isD, dTy, tyIs] at h)
def worthD (d : PyData) : Bool := match d with
  | .int i => decide (-1000000000000 ≤ i) && decide (i ≤ 1000000000000)
  | _ => false
def indexD (d : PyData) (n : Int) : Bool := match d with
  | .int i => decide (0 ≤ i) && decide (i < n)
  | _ => false
def nameS (x : Str) : Bool := decide (x.length ≤ 8) && (Txt.isascii x && (Txt.isalpha x && Txt.islower x))
def nameD (d : PyData) : Bool := match d with
  | .str x => nameS x
  | _ => false
def strsOf (ds : List PyData) : List Str := ds.filterMap fun d => match d with
  | .str x => some x
  | _ => none
def unlikeS (xs : List Str) : Bool := decide ((uq xs).length = xs.length)
def namesD (d : PyData) : Bool := match d with
  | .tuple ds => decide (ds.length ≤ 3) && (ds.all nameD && unlikeS (strsOf ds))
  | _ => false
def headedD (d : PyData) : Bool := match d with
  | .tuple [a, c, _] => nameD a && namesD c
  | _ => false
def fst (d : PyData) : PyData := match d with
  | .tuple (a :: _) => a
  | _ => .none
def thd (d : PyData) : PyData := match d with
  | .tuple (_ :: _ :: a :: _) => a
  | _ => .none
def headedAll (d : PyData) (most : Int) : Bool := match d with
  | .tuple ds => (decide (1 ≤ ds.length) && decide ((ds.length : Int) ≤ most)) && (ds.all headedD && unlikeS (strsOf (ds.map fst)))
  | _ => false
def loneW : List Str := ["add", "less", "times", "over", "same", "below", "twin", "swap", "away", "say", "back", "throw", "done", "lead", "turn"]
def nameW : List Str := ["get", "set", "look", "change"]
def rowW : List Str := ["go", "if", "try"]
def rowD (d : PyData) (at_ many : Int) (called : List Str) : Bool := match d with
  | .tuple [a] => inD a (loneW.map .str)
  | .tuple [a, c] =>
    if PyData.eqv a (.str "put") = true then worthD c
    else if inD a (nameW.map .str) = true then nameD c
    else if PyData.eqv a (.str "call") = true then inD c (called.map .str)
    else inD a (rowW.map .str) && (indexD c many && !(PyData.eqv a (.str "try") && PyData.eqv c (.int (at_ + 1))))
  | _ => false
def rowsD (d : PyData) (called : List Str) : Bool := match d with
  | .tuple ds => (decide (1 ≤ ds.length) && decide (ds.length ≤ 60)) && ((List.range ds.length).all fun i => rowD (ds.getD i .none) i ds.length called)
  | _ => false
def progD (d : PyData) : Bool := match d with
  | .tuple ds => headedAll (.tuple ds) 8 && ds.all fun p => rowsD (thd p) (strsOf (ds.map fst))
  | _ => false
end Wr

set_option Elab.async false
set_option linter.all false
set_option maxRecDepth 100000
set_option maxHeartbeats 4000000
namespace Wr
open PySem PySem.Spec PyProof.Rows L2 Evl
section
variable {K : PySem.W.Frag} {b : List Addr} {σ : L2.St} {H H' : Hp} {ta te : TE} {tt : TT} {d : PyData} {ds : List PyData}
theorem et_n {c : Bool} (h : EvT tt σ H c) : EvT (tNot tt) σ H (!c) := fun H1 x Q q => h H1 x _ fun H2 x2 => q H2 x2
theorem ed_m0 {C : Str → Prop} {g : Str → V} {x : Str} {z : PyData} (ha : ED K b ta σ H (.str x)) (hc : C x) (hz : ∀ H', Dq K b H' (g x) z) : ED K b (tBM0 K "str" (fun x xs H Q => ∃ a, x = .str a ∧ xs = [] ∧ C a ∧ Q (g a) H) ta) σ H z := fun H1 x1 Q q =>
  ha H1 x1 _ fun v H2 x2 hv => by
    cases hv
    exact ⟨rfl, x, rfl, rfl, hc, q _ H2 x2 (hz _)⟩
end
theorem pe_gI {X : Cx} {x : Str} {i : Int} {t : Tok} {pos : Pos} (hm : X.mg x = some (.int i t)) (hg : Gl X x := by rfl) (hd : (x == ("__debug__" : Str)) = false := by decide) : PE X (.Name x pos) (tC (.int i)) := pe_glob hg hm ⟨t, rfl⟩ hd
theorem pe_gR {X : Cx} {x : Str} {a : Addr} {pos : Pos} (hm : X.mg x = some (.ref a)) (hg : Gl X x := by rfl) (hd : (x == ("__debug__" : Str)) = false := by decide) : PE X (.Name x pos) (tC (.ref a)) := pe_glob hg hm rfl hd
/-- the built-ins that the text uses are still the built-ins -/
structure Blt (mg : Str → Option Value) : Prop where
  isi : mg "isinstance" = none
  len : mg "len" = none
  all : mg "all" = none
  enum : mg "enumerate" = none
  set : mg "set" = none
  int : mg "int" = none
  bool : mg "bool" = none
  str : mg "str" = none
  tuple : mg "tuple" = none
  list : mg "list" = none
  range : mg "range" = none
/-- a def of the text -/
structure Def (K : PySem.W.Frag) (mg : Str → Option Value) (x : Str) (st : Stmt) (ps : List Str) (f : Addr) (fd : FuncData) : Prop where
  F : Fun K x x st f fd
  b : Binds K fd ps []
  m : mg x = some (.ref f)
theorem pe_cd {X : Cx} {x : Str} {st : Stmt} {k : Nat} {ps : List Str} {sp : Sp} {f : Addr} {fd : FuncData} {p pos : Pos} {e : Expr} {es : List Expr} {t : TA} (D : Def X.K X.mg x st ps f fd) (G : FnOk X.prog X.w X.K X.mg X.base CX0 k f fd ps sp) (hr : Room k X.A) (ha : PA X (e :: es) t)
    (hg : Gl X x := by rfl) (hdb : (x == ("__debug__" : Str)) = false := by decide) (he : starEach (e :: es) X.env = (false, eval e X.env) :: starEach es X.env := by rfl) (hpl : (backTo pos (starEach es X.env)).any (·.1) = false := by rfl) :
    PE X (.Call (.Name x p) (e :: es) [] pos) (tCall sp [] E0 t) := pe_call G hr hg D.m D.F.kp D.b .nil pass0 ha hdb he hpl
def topS (i : Nat) : Stmt := PySem.Challenge.pw_watchedrun_k13_guards_and_calls_of_trees.main.body.getD i (.Pass ⟨0, 0, 0, 0⟩)
abbrev s_is_whole : Stmt := topS 2
abbrev s_is_worth : Stmt := topS 3
theorem sc_is_whole : FnScope ["thing"] ["thing"] (defScope s_is_whole) := ⟨rfl, rfl, rfl, by decide +kernel, rfl, by decide +kernel, by decide +kernel⟩
theorem sc_is_worth : FnScope ["thing"] ["thing"] (defScope s_is_worth) := ⟨rfl, rfl, rfl, by decide +kernel, rfl, by decide +kernel, by decide +kernel⟩
/-- one datum, a truth -/
def F1 (g : PyData → Bool) (ds : List PyData) : PyData := match ds with
  | [d] => .bool (g d)
  | _ => .none
def F2 (g : PyData → PyData → Bool) (ds : List PyData) : PyData := match ds with
  | [d, e] => .bool (g d e)
  | _ => .none
def intOf (d : PyData) : Int := match d with
  | .int i => i
  | _ => 0
section
variable {P : Program} {w : World} {K : PySem.W.Frag} {mg : Str → Option Value} {base : Heap} {f g g2 g3 : Addr} {fd gd gd2 gd3 : FuncData}
theorem ok_is_whole (D : Def K mg "is_whole" s_is_whole ["thing"] f fd) (B : Blt mg) : FnOk P w K mg base CX0 1 f fd ["thing"] (spP K (fun ds => ds.length = 1) (F1 wholeD)) := by
  refine D.F.ok sc_is_whole (fun vs H Q E h => spP_len (fun _ h => h) h) (fun cdv A outer s H vs Q E hr h => ?_)
  obtain ⟨b, ds, kn, hd, hp, q⟩ := h
  obtain ⟨v, d, rfl, rfl, h1⟩ := one_of hd hp
  refine ⟨_, pss_one (ps_ret (pe_and (pe_callB call_isi rfl B.isi bb_isinstance (pa_cons (pv 0) (pa_cons (pe_tyN rfl B.int bt_int) pa_nil)))
    (pe_one (pe_not (pe_callB call_isi rfl B.isi bb_isinstance (pa_cons (pv 0) (pa_cons (pe_tyN rfl B.bool bt_bool) pa_nil))))))), ?_⟩
  exact SR.fin (sr_ret (ed_andB (ed_isi (.inl rfl) (ed_var rfl h1)) fun _ => ed_not (ed_isi (.inr (.inl rfl)) (ed_var rfl h1)))) q
theorem ok_is_worth (D : Def K mg "is_worth" s_is_worth ["thing"] f fd) (D1 : Def K mg "is_whole" s_is_whole ["thing"] g gd) (B : Blt mg) {t : Tok} (mW : mg "MOST_WORTH" = some (.int 1000000000000 t)) :
    FnOk P w K mg base CX0 2 f fd ["thing"] (spP K (fun ds => ds.length = 1) (F1 worthD)) := by
  refine D.F.ok sc_is_worth (fun vs H Q E h => spP_len (fun _ h => h) h) (fun cdv A outer s H vs Q E hr h => ?_)
  obtain ⟨b, ds, kn, hd, hp, q⟩ := h
  obtain ⟨v, d, rfl, rfl, h1⟩ := one_of hd hp
  refine ⟨_, pss_one (ps_ret (pe_and (pe_cd D1 (ok_is_whole D1 B) hr (pa_cons (pv 0) pa_nil))
    (pe_one (pe_chain op_le op_le (pe_un un_neg (pe_gI mW)) (pv 0) (pe_gI mW))))), ?_⟩
  cases hw : wholeD d with
  | false =>
    refine SR.fin (sr_ret ((ed_and (d := .none) (c := wholeD d) (ed_call kn (ea_cons (ed_var rfl h1) ea_nil) (by rfl)) fun h => ?_).to ?_)) q
    · rw [hw] at h; cases h
    · rw [hw]
      have : worthD d = false := by
        cases d <;> first | rfl | (simp [wholeD, isD, dTy, tyIs] at hw)
      show PyData.bool false = .bool (worthD d)
      rw [this]
  | true =>
    obtain ⟨i, rfl⟩ := wholeD_int hw
    refine SR.fin (sr_ret ((ed_andB (c := wholeD (.int i)) (ed_call kn (ea_cons (ed_var rfl h1) ea_nil) (by rfl)) fun _ => ed_chain (ed_neg (ed_c (.int _))) (ed_var rfl h1) (ed_c (.int _))).to ?_)) q
    rw [hw]
    rfl
end
end Wr

set_option Elab.async false
set_option linter.all false
set_option maxRecDepth 100000
set_option maxHeartbeats 4000000
namespace Wr
open PySem PySem.Spec PyProof.Rows L2 Evl
theorem hu64 {A : Around} {k : Nat} (hr : Room k A) : A.units + 64 < cLine := hr.units
theorem hu65 {A : Around} {k : Nat} (hr : Room k A) : A.units + 65 < cLine := by have := hr.un; omega
section
variable {K : PySem.W.Frag} {b : List Addr} {σ : L2.St} {H H' : Hp} {ta te : TE} {tt : TT} {d : PyData} {ds : List PyData}
theorem all_map {α : Type} (xs : List α) (g : α → Bool) : (xs.map g).all id = xs.all g := by
  rw [List.all_map]
  rfl
theorem ed_allT {k : Nat} {g : PyData → Bool} (kn : Kn b H) (ha : ED K b ta σ H (.tuple ds)) (hl : ds.length ≤ 1000)
    (he : ∀ d v H3, d ∈ ds → Ex H H3 → Dq K b H3 v d → ED K b te ((wipe σ [k]).set k (some v)) H3 (.bool (g d))) :
    ED K b (tCB (rAll K) (tCons (tLc (iTup K ta) (gName k) tYes te [k]) tNil)) σ H (.bool (ds.all g)) := by
  have h := ed_lcT1 (K := K) (b := b) (k := k) (f := fun d => .bool (g d)) kn ha (Nat.lt_of_le_of_lt hl (by decide)) he fun _ _ => rfl
  have e : ds.map (fun d => PyData.bool (g d)) = (ds.map g).map PyData.bool := by rw [List.map_map]; rfl
  exact (ed_all (h.to (by rw [e]))).to (by rw [all_map])
theorem eqv_int (i j : Int) : PyData.eqv (.int i) (.int j) = (i == j) := by simp only [PyData.eqv]
theorem sh_int (i : Int) : SeqAt.shaped (.int i) = true := by
  show ((PyData.int i).canLay0 && decide ((PyData.int i).depth ≤ 64)) = true
  simp only [PyData.canLay0, PyData.depth]
  rfl
theorem sh_bool (i : Bool) : SeqAt.shaped (.bool i) = true := by
  show ((PyData.bool i).canLay0 && decide ((PyData.bool i).depth ≤ 64)) = true
  simp only [PyData.canLay0, PyData.depth]
  rfl
theorem sh_none : SeqAt.shaped .none = true := by
  show (PyData.none.canLay0 && decide (PyData.none.depth ≤ 64)) = true
  simp only [PyData.canLay0, PyData.depth]
  rfl
theorem strsOf_map (xs : List Str) : strsOf (xs.map PyData.str) = xs := by
  induction xs with
  | nil => rfl
  | cons x r ih =>
    show (x :: strsOf (r.map PyData.str)) = x :: r
    rw [ih]
theorem map_strsOf : ∀ {ds : List PyData}, ds.all (isD "str") = true → (strsOf ds).map PyData.str = ds
  | [], _ => rfl
  | d :: ds, h => by
    rw [List.all_cons, Bool.and_eq_true] at h
    obtain ⟨x, rfl⟩ := isD_str h.1
    show PyData.str x :: (strsOf ds).map PyData.str = .str x :: ds
    rw [map_strsOf h.2]
theorem nameD_str {d : PyData} (h : nameD d = true) : isD "str" d = true := by
  cases d <;> first | rfl | cases h
theorem names_strs {ds : List PyData} (h : ds.all nameD = true) : ds.all (isD "str") = true :=
  List.all_eq_true.mpr fun d hd => nameD_str (List.all_eq_true.mp h d hd)
theorem strsOf_len {ds : List PyData} : (strsOf ds).length ≤ ds.length := List.length_filterMap_le _ _
end
def unlikeD (d : PyData) : Bool := match d with
  | .tuple ds => unlikeS (strsOf ds)
  | .list ds => unlikeS (strsOf ds)
  | _ => false
def StrSeq (d : PyData) : Prop := ∃ xs : List Str, xs.length ≤ 1000 ∧ (d = .list (xs.map PyData.str) ∨ d = .tuple (xs.map PyData.str))
section
variable {P : Program} {w : World} {K : PySem.W.Frag} {mg : Str → Option Value} {base : Heap} {f g g2 g3 : Addr} {fd gd gd2 gd3 : FuncData}
end
end Wr

set_option Elab.async false
set_option linter.all false
set_option maxRecDepth 100000
set_option maxHeartbeats 4000000
namespace Wr
open PySem PySem.Spec PyProof.Rows L2 Evl
section
variable {K : PySem.W.Frag} {b : List Addr} {σ : L2.St} {H H' : Hp} {ta te : TE} {tt : TT} {ts : TS} {d a c : PyData} {ds : List PyData}
theorem sr_unpack2 {i j : Nat} (h : ED K b te σ H (.tuple [a, c])) (k : ∀ v1 v2 H', Ex H H' → Dq K b H' v1 a → Dq K b H' v2 c → SR K b ts ((σ.set i (some v1)).set j (some v2)) H' d) :
    SR K b (tSeq (tAsg te (gTup K 2 (gCons (gName i) (gCons (gName j) gNil)))) ts) σ H d := fun H1 x1 D q =>
  h H1 x1 _ fun v H2 x2 hv => by
    cases hv with
    | tup h1 _ h2 =>
      cases h2 with
      | cons p1 p2 =>
        cases p2 with
        | cons p3 p4 =>
          cases p4
          exact ⟨_, _, rfl, ex_t hid_le h1, rfl, _, _, rfl, _, _, rfl, rfl, k _ _ H2 (x1.trans x2) p1 p3 H2 (Ex.refl H2) D fun z H4 x4 hz => q _ H4 (x2.trans x4) hz⟩
/-- [.. for i, x in enumerate(tuple)], flat items -/
theorem ed_lcE {k1 k2 : Nat} {f : Nat → PyData → PyData} (kn : Kn b H) (ha : ED K b ta σ H (.tuple ds)) (hl : ds.length < sizeLine)
    (hw : ∀ x y, wipe (((wipe σ [k1, k2]).set k1 x).set k2 y) [k1, k2] = wipe σ [k1, k2])
    (he : ∀ i d v H3, ds[i]? = some d → Ex H H3 → Dq K b H3 v d → ED K b te (((wipe σ [k1, k2]).set k1 (some (.int (i : Nat)))).set k2 (some v)) H3 (f i d)) (hf : ∀ i d, ds[i]? = some d → flatP (f i d) = true) :
    ED K b (tLc (iEnumT K (tCons ta tNil)) (gTup K 2 (gCons (gName k1) (gCons (gName k2) gNil))) tYes te [k1, k2]) σ H (.list ((List.range ds.length).map fun i => f i (ds.getD i .none))) := fun H1 x1 Q q =>
  ha H1 x1 _ fun x H2 x2 hx => by
    cases hx with
    | @tup a xs _ h1 _ h2 =>
      have hlen := dps_len h2
      refine ⟨a, xs, rfl, ex_t hid_le h1, fun D hD => ?_⟩
      refine lc_it walk_enumT (fun i H3 => Ex H2 H3 ∧ H3 D = some (.lst (((List.range i).map fun i => f i (ds.getD i .none)).map vOf))) ⟨Ex.new hD, upd_same⟩ (fun i H3 _ h => ex_t h.1 (ex_t hid_le h1)) ?_ ?_
      · intro i x H3 H3' hi ⟨x3, e3⟩ ⟨T, y1, y2, ex, nT, eH, g1, g2⟩
        subst ex eH
        have e1 : y1 = .int (i : Nat) := (Option.some.inj g1).symm
        subst e1
        obtain ⟨d, gd, dd⟩ := dps_at h2 g2
        have xT : Ex H3 (upd H3 T (.tup [.int (i : Nat), y2])) := Ex.new nT
        refine ⟨T, [.int (i : Nat), y2], rfl, .inl (.inl upd_same), rfl, _, _, rfl, _, _, rfl, rfl, hw _ _, ?_⟩
        refine et_yes (H := upd H3 T (.tup [.int (i : Nat), y2])) _ (Ex.refl _) _ fun H4 x4 => ?_
        rw [if_pos rfl]
        have x3' : Ex H2 H4 := (x3.trans xT).trans x4
        refine he i d y2 _ gd ((x1.trans x2).trans x3') (Dq.up dd x3') _ (Ex.refl _) _ fun y H5 x5 hy => ?_
        have ey := dp_flat hy (hf i d gd)
        have hg : ds.getD i .none = d := by rw [List.getD_eq_getElem?_getD, gd, Option.getD_some]
        refine ⟨_, x5 _ _ (x4 _ _ (xT _ _ e3)), ?_, Ex.mut (x3'.trans x5) hD, ?_⟩
        · rw [List.length_map, List.length_map, List.length_range]
          have : xs.length < sizeLine := by rw [hlen]; exact hl
          omega
        · rw [upd_same, List.range_succ, List.map_append, List.map_append, ey]
          show some (HO.lst (_ ++ [vOf (f i d)])) = some (HO.lst (_ ++ [vOf (f i (ds.getD i .none))]))
          rw [hg]
      · intro H3 ⟨x3, e3⟩
        rw [hlen] at e3
        refine q _ H3 (x2.trans x3) (.lst (.inl (.inl ?_)) (flats_dp fun d hd => ?_))
        · rw [hid_ne ((kn.up (x1.trans x2)).new hD)]
          exact e3
        · obtain ⟨i, hi, rfl⟩ := List.mem_map.mp hd
          have hi' := List.mem_range.mp hi
          have g1 : ds[i]? = some ds[i] := List.getElem?_eq_getElem hi'
          have := hf i _ g1
          simp only [List.getD_eq_getElem?_getD, g1, Option.getD_some]
          exact this
theorem atI0 {α : Type} (x : α) (r : List α) : atI (x :: r) 0 = some x := atI_nat (j := 0) rfl
theorem atI1 {α : Type} (x y : α) (r : List α) : atI (x :: y :: r) 1 = some y := atI_nat (j := 1) rfl
theorem atI2 {α : Type} (x y z : α) (r : List α) : atI (x :: y :: z :: r) 2 = some z := atI_nat (j := 2) rfl
theorem sh_str {x : Str} (h : PyData.strOk x = true) : SeqAt.shaped (.str x) = true := by
  show ((PyData.str x).canLay0 && decide ((PyData.str x).depth ≤ 64)) = true
  simp only [PyData.canLay0, PyData.depth, h]
  rfl
theorem sh_strs {xs : List Str} (h : xs.all PyData.strOk = true) : SeqAt.shaped (.tuple (xs.map .str)) = true ∧ SeqAt.shaped (.list (xs.map .str)) = true := by
  have h1 : PyData.canLayAll0 (xs.map .str) = true := lay_all fun d hd => by
    obtain ⟨x, hx, rfl⟩ := List.mem_map.mp hd
    simp only [PyData.canLay0]
    exact List.all_eq_true.mp h x hx
  have h2 : PyData.depthAll (xs.map .str) ≤ 0 := depth_all fun d hd => by
    obtain ⟨x, hx, rfl⟩ := List.mem_map.mp hd
    simp only [PyData.depth]
    exact Nat.le_refl 0
  constructor
  · show ((PyData.tuple _).canLay0 && decide ((PyData.tuple _).depth ≤ 64)) = true
    simp only [PyData.canLay0, PyData.depth, h1, Bool.true_and]
    exact decide_eq_true (by omega)
  · show ((PyData.list _).canLay0 && decide ((PyData.list _).depth ≤ 64)) = true
    simp only [PyData.canLay0, PyData.depth, h1, Bool.true_and]
    exact decide_eq_true (by omega)
end
section
variable {P : Program} {w : World} {K : PySem.W.Frag} {mg : Str → Option Value} {base : Heap} {f g g2 g3 g4 g5 : Addr} {fd gd gd2 gd3 gd4 gd5 : FuncData}
theorem headed_fst {d : PyData} (h : headedD d = true) : ∃ a c e, d = .tuple [a, c, e] ∧ nameD a = true ∧ namesD c = true := by
  unfold headedD at h
  split at h
  · rename_i a c e
    rw [Bool.and_eq_true] at h
    exact ⟨a, c, e, rfl, h.1, h.2⟩
  · cases h
end
end Wr

set_option Elab.async false
set_option linter.all false
set_option maxRecDepth 100000
set_option maxHeartbeats 4000000
namespace Wr
open PySem PySem.Spec PyProof.Rows L2 Evl
/-- the text's written tuples -/
structure Words (K : PySem.W.Frag) (mg : Str → Option Value) (aN aR aL : Addr) : Prop where
  mN : mg "NAME_WORDS" = some (.ref aN)
  mR : mg "ROW_WORDS" = some (.ref aR)
  mL : mg "LONE_WORDS" = some (.ref aL)
  kN : ∀ H, SqT K H aN (nameW.map V.str) ∧ TN K H aN
  kR : ∀ H, SqT K H aR (rowW.map V.str) ∧ TN K H aR
  kL : ∀ H, SqT K H aL (loneW.map V.str) ∧ TN K H aL
def rowF (ds : List PyData) : PyData := match ds with
  | [d, i, m, .list cs] => .bool (rowD d (intOf i) (intOf m) (strsOf cs))
  | _ => .none
def RowPre (ds : List PyData) : Prop := ds.length = 4 ∧ ∀ d i m c, ds = [d, i, m, c] → okD 30 d = true ∧ (∃ k, i = .int k) ∧ (∃ k, m = .int k) ∧ ∃ xs : List Str, xs.all PyData.strOk = true ∧ c = .list (xs.map .str)
theorem rowD_two (a c : PyData) (i m : Int) (xs : List Str) : rowD (.tuple [a, c]) i m xs = (if PyData.eqv a (.str "put") = true then worthD c
    else if inD a (nameW.map .str) = true then nameD c
    else if PyData.eqv a (.str "call") = true then inD c (xs.map .str)
    else inD a (rowW.map .str) && (indexD c m && !(PyData.eqv a (.str "try") && PyData.eqv c (.int (i + 1))))) := rfl
theorem strOk_words : (loneW ++ nameW ++ rowW).all PyData.strOk = true := by decide +kernel
theorem sh_lone : SeqAt.shaped (.tuple (loneW.map .str)) = true := (sh_strs (by decide +kernel)).1
theorem sh_nameW : SeqAt.shaped (.tuple (nameW.map .str)) = true := (sh_strs (by decide +kernel)).1
theorem sh_rowW : SeqAt.shaped (.tuple (rowW.map .str)) = true := (sh_strs (by decide +kernel)).1
theorem sh_put : SeqAt.shaped (.str "put") = true := sh_str (by decide +kernel)
theorem sh_call : SeqAt.shaped (.str "call") = true := sh_str (by decide +kernel)
theorem sh_try : SeqAt.shaped (.str "try") = true := sh_str (by decide +kernel)
section
variable {P : Program} {w : World} {K : PySem.W.Frag} {mg : Str → Option Value} {base : Heap} {f g g2 g3 g4 g5 aN aR aL : Addr} {fd gd gd2 gd3 gd4 gd5 : FuncData}
theorem ed_words {b : List Addr} {σ : L2.St} {H : Hp} {a : Addr} {xs : List Str} (h : ∀ H, SqT K H a (xs.map V.str) ∧ TN K H a) : ED K b (tC (.ref a)) σ H (.tuple (xs.map .str)) := ed_c (.tup (h _).1 (h _).2 (strs_dps xs))
def RowsPre (ds : List PyData) : Prop := ds.length = 2 ∧ ∀ d c, ds = [d, c] → okD 30 d = true ∧ ∃ xs : List Str, xs.all PyData.strOk = true ∧ c = .list (xs.map .str)
def rowsF (ds : List PyData) : PyData := match ds with
  | [d, .list cs] => .bool (rowsD d (strsOf cs))
  | _ => .none
theorem name_strOk {x : Str} (h : nameS x = true) : PyData.strOk x = true := by
  unfold nameS at h
  rw [Bool.and_eq_true, Bool.and_eq_true] at h
  have h2 : x.cps.all (· < 128) = true := h.2.1
  show x.cps.all (· < 0x110000) = true
  rw [Array.all_eq_true] at h2 ⊢
  intro i hi
  have := of_decide_eq_true (h2 i hi)
  exact decide_eq_true (by omega)
def ProgPre (ds : List PyData) : Prop := ds.length = 1 ∧ ∀ d, ds = [d] → okD 30 d = true
end
end Wr

set_option Elab.async false
set_option linter.all false
set_option maxRecDepth 100000
set_option maxHeartbeats 4000000
namespace Wr
open PySem PySem.Spec PyProof.Rows L2 Evl
/-! ### a method of a tuple -/
def tBMT (K : PySem.W.Frag) (r : V → List V → Hp → VK → Prop) (to : TE) (t : TA) : TE := fun σ H Q => to σ H fun x H1 => (∃ a xs, x = .ref a ∧ SqT K H1 a xs ∧ TN K H1 a) ∧ t σ H1 fun xs H2 => r x xs H2 Q
theorem tn_is {X : Cx} {pins : List (Addr × Obj)} {σ : L2.St} {H : Hp} {s : Shared} {a : Addr} (I : Inv X pins σ H s) (h : TN X.K H a) : ∃ o, s.heap.get? a = some o ∧ o.dict = none := by
  rcases h with ⟨o, u, h1, h2⟩ | ⟨o, h1, _, h2⟩
  · exact ⟨o, (I.hok a _ h1).1, h2⟩
  · exact ⟨o, I.kIn a o h1, h2⟩
theorem pe_bmT {X : Cx} {o e : Expr} {es : List Expr} {to : TE} {t : TA} {name : Str} {id : String} {apos cpos : Pos} {r : V → List V → Hp → VK → Prop} (slot : Slot "tuple" name id) (hty : typeOf (.builtin id) = pure (.type "method_descriptor")) (hm : MtR X id r) (ho : PE X o to) (ha : PA X (e :: es) t)
    (hbase : attributeBase o name X.env (eval o X.env) = eval o X.env := by rfl)
    (hfew : ((backTo cpos (starEach (e :: es) X.env)).all (fun x => !x.1) && (backToKw cpos (keywordEach [] X.env)).all (fun x => x.1.isSome) && decide ((e :: es).length + ([] : List Keyword).length + (if ([] : List Keyword).isEmpty then 0 else 1) < 30)) = true := by rfl)
    (hline : (apos.endLine == cpos.line) = true := by rfl) (hs : starEach (e :: es) X.env = (false, eval e X.env) :: starEach es X.env := by rfl) (hplain : (backTo cpos (starEach es X.env)).any (·.1) = false := by rfl) :
    PE X (.Call (.Attribute o name apos) (e :: es) [] cpos) (tBMT X.K r to t) := by
  refine ⟨fun pins s σ H Q I h => ?_⟩
  refine wpAny_Call_method_late hbase hfew hline rfl (thn (ho.run pins s σ H _ I h) fun v s1 ⟨x, H1, I1, r1, ty, q1⟩ => ?_)
  obtain ⟨a, xs, rfl, hq, hn⟩ := ty
  cases r1
  obtain ⟨its, rv, p, _⟩ := I1.tuple hq
  refine ⟨"tuple", id, PySem.F.plainAttrs_tuple, slot, hty, p.typeIs, fun b e => ?_, ?_⟩
  · cases e
    exact tn_is I1 hn
  · have hA := ha.run cpos pins s1 σ H1 _ I1 q1
    rw [hs] at hA ⊢
    refine Calls.callWith_builtin (by show (false || (backTo cpos (starEach es X.env)).any (·.1)) = false; rw [hplain] <;> rfl) (Calls.evalArgs_plain ?_)
    exact thn hA fun us s2 ⟨vs, H2, I2, r2, q2⟩ => hm pins s2 σ H2 (.ref a) vs (.ref a) us Q I2 rfl r2 q2
/-! ### count -/
def countD (d : PyData) (ds : List PyData) : Nat := ds.countP fun z => PyData.eqv z d
def rCountT (K : PySem.W.Frag) : V → List V → Hp → VK → Prop := fun x xs H Q => ∃ y d ds, xs = [y] ∧ Dp K H x (.tuple ds) ∧ Dp K H y d ∧ SeqAt.shaped (.tuple ds) = true ∧ SeqAt.shaped d = true ∧ Q (.int (countD d ds : Nat)) H
def rCountL (K : PySem.W.Frag) : V → List V → Hp → VK → Prop := fun x xs H Q => ∃ y d ds, xs = [y] ∧ Dp K H x (.list ds) ∧ Dp K H y d ∧ SeqAt.shaped (.list ds) = true ∧ SeqAt.shaped d = true ∧ Q (.int (countD d ds : Nat)) H
theorem count_map {h : Heap} {its : List Value} {ds : List PyData} {d : PyData} (hm : its.map (SeqAt.readOf h) = ds) : its.countP (fun u => PyData.eqv (SeqAt.readOf h u) d) = countD d ds := by
  unfold countD
  rw [← hm, List.countP_map]
  rfl
theorem mt_countT {X : Cx} (hu : X.A.units + 65 < cLine) : MtR X "tuple.count" (rCountT X.K) := by
  intro pins s σ H x xs v us Q I rx rxs ⟨y, d, ds, e1, hl, hy, sl, sd, q⟩
  subst e1
  obtain ⟨uy, rfl, ry⟩ := vals1 rxs
  obtain ⟨bs, r1⟩ := Dp.reads I d y uy hy ry
  have hxs : PyData.canLayAll0 ds = true := by
    have := SeqAt.canLay_of_shaped sl
    simpa only [PyData.canLay0] using this
  have hroom : X.A.units + 1 + min (PyData.depthAll ds) d.depth < cLine := room_in_shaped sd hu
  cases hl with
  | tup hs ha =>
    cases rx
    obtain ⟨its, rv, ⟨⟨cls, dd, data, sls⟩, ho, hc, n, hd⟩, hlen⟩ := I.tuple hs
    simp only at hc hd
    subst hc hd
    obtain ⟨as, h4⟩ := Dp.readsAll I ds _ its ha rv
    have hm := SeqAt.readsAll_map ds its as hxs h4
    refine call_meets PySem.F.slot_tuple_count ⟨_, ho, rfl⟩ PySem.F.entry_tuple_count (PySem.F.args_tuple_count_2 _ _)
      (SeqAt.tuple_countAt _ its.toArray n dd sls uy fun u => PyData.eqv (SeqAt.readOf s.heap u) d) ⟨ho, SeqAt.items_eqAt (vs := its.toArray) h4 r1 hxs (SeqAt.canLay_of_shaped sd) hroom, ?_⟩
    refine ⟨.int (countD d ds : Nat), H, I.tok _, ⟨s.toks, ?_⟩, q⟩
    rw [List.toList_toArray, count_map hm]
theorem mt_countL {X : Cx} (hu : X.A.units + 65 < cLine) : MtR X "list.count" (rCountL X.K) := by
  intro pins s σ H x xs v us Q I rx rxs ⟨y, d, ds, e1, hl, hy, sl, sd, q⟩
  subst e1
  obtain ⟨uy, rfl, ry⟩ := vals1 rxs
  obtain ⟨bs, r1⟩ := Dp.reads I d y uy hy ry
  have hxs : PyData.canLayAll0 ds = true := by
    have := SeqAt.canLay_of_shaped sl
    simpa only [PyData.canLay0] using this
  have hroom : X.A.units + 1 + min (PyData.depthAll ds) d.depth < cLine := room_in_shaped sd hu
  cases hl with
  | lst hs ha =>
    cases rx
    obtain ⟨its, rv, ⟨⟨cls, dd, data, sls⟩, n, ho, hc, hdn, hd⟩, hlen⟩ := I.list hs
    simp only at hc hd
    subst hc hd
    obtain ⟨as, h4⟩ := Dp.readsAll I ds _ its ha rv
    have hm := SeqAt.readsAll_map ds its as hxs h4
    refine call_meets PySem.F.slot_list_count ⟨_, ho, rfl⟩ PySem.F.entry_list_count (PySem.F.args_list_count_2 _ _)
      (SeqAt.list_countAt _ its.toArray n dd sls uy fun u => PyData.eqv (SeqAt.readOf s.heap u) d) ⟨ho, SeqAt.items_eqAt (vs := its.toArray) h4 r1 hxs (SeqAt.canLay_of_shaped sd) hroom, ?_⟩
    refine ⟨.int (countD d ds : Nat), H, I.tok _, ⟨s.toks, ?_⟩, q⟩
    rw [List.toList_toArray, count_map hm]
/-! ### not in range -/
def rNinR : R2 := fun x y H Q => ∃ i a lo hi, x = V.int i ∧ y = V.ref a ∧ H a = some (.rng lo hi) ∧ Q (.bl (!decide (lo ≤ i ∧ i < hi))) H
theorem op_ninR {X : Cx} : OpR X (compareOp .NotIn) rNinR := by
  intro pins s σ H x y v u Q I rx ry ⟨i, a, lo, hi, e1, e2, ha, q⟩
  subst e1 e2
  obtain ⟨k, rfl⟩ := rx
  obtain rfl : u = Value.ref a := ry
  obtain ⟨t1, t2, t3, ho⟩ := I.hok a _ ha
  show wpAny _ _ (do return Value.bool (!(← contains (Value.ref a) (Value.int i k)))) _ _ s
  refine wpAny_bind (wpAny_contains_slot (T := "range") ⟨_, ho, rfl⟩ PySem.F.slot_range_contains (call_meets PySem.F.slot_range_contains ⟨_, ho, rfl⟩ PySem.F.entry_range_contains
    (PySem.F.args_range_contains_2 _ _) (q_contains a lo hi i t1 t2 t3 k) ⟨ho, wpAny_truthy_bool (wpAny_pure ⟨.bl _, H, I, rfl, ?_⟩)⟩))
  rw [place1]
  exact q
section
variable {K : PySem.W.Frag} {b : List Addr} {σ : L2.St} {H H' : Hp} {ta tb te : TE} {tt : TT} {ts : TS} {d a c e : PyData} {ds : List PyData}
theorem ed_countT (ha : ED K b ta σ H (.tuple ds)) (hb : ED K b tb σ H d) (sl : SeqAt.shaped (.tuple ds) = true) (sd : SeqAt.shaped d = true) : ED K b (tBMT K (rCountT K) ta (tCons tb tNil)) σ H (.int (countD d ds : Nat)) := fun H1 x1 Q q =>
  ha H1 x1 _ fun x H2 x2 hx => by
    have hx' := hx
    cases hx' with
    | tup h1 hn _ =>
      exact ⟨⟨_, _, rfl, ex_t hid_le h1, hn.ex hid_le⟩, hb H2 (x1.trans x2) _ fun y H3 x3 hy => ⟨y, d, ds, rfl, (Dq.up hx x3).dp, hy.dp, sl, sd, q _ H3 (x2.trans x3) (.int _)⟩⟩
theorem ed_countL (ha : ED K b ta σ H (.list ds)) (hb : ED K b tb σ H d) (sl : SeqAt.shaped (.list ds) = true) (sd : SeqAt.shaped d = true) : ED K b (tBM K "list" (rCountL K) ta (tCons tb tNil)) σ H (.int (countD d ds : Nat)) := fun H1 x1 Q q =>
  ha H1 x1 _ fun x H2 x2 hx => by
    have hx' := hx
    cases hx' with
    | lst h1 _ =>
      exact ⟨.inl ⟨rfl, _, ex_l hid_le h1⟩, hb H2 (x1.trans x2) _ fun y H3 x3 hy => ⟨y, d, ds, rfl, (Dq.up hx x3).dp, hy.dp, sl, sd, q _ H3 (x2.trans x3) (.int _)⟩⟩
theorem sr_unpack3 {i j k : Nat} (h : ED K b te σ H (.tuple [a, c, e])) (kk : ∀ v1 v2 v3 H', Ex H H' → Dq K b H' v1 a → Dq K b H' v2 c → Dq K b H' v3 e → SR K b ts (((σ.set i (some v1)).set j (some v2)).set k (some v3)) H' d) :
    SR K b (tSeq (tAsg te (gTup K 3 (gCons (gName i) (gCons (gName j) (gCons (gName k) gNil))))) ts) σ H d := fun H1 x1 D q =>
  h H1 x1 _ fun v H2 x2 hv => by
    cases hv with
    | tup h1 _ h2 =>
      cases h2 with
      | cons p1 p2 =>
        cases p2 with
        | cons p3 p4 =>
          cases p4 with
          | cons p5 p6 =>
            cases p6
            exact ⟨_, _, rfl, ex_t hid_le h1, rfl, _, _, rfl, _, _, rfl, _, _, rfl, rfl, kk _ _ _ H2 (x1.trans x2) p1 p3 p5 H2 (Ex.refl H2) D fun z H4 x4 hz => q _ H4 (x2.trans x4) hz⟩
/-- one sign in a written text -/
def rInSg : R2 := fun x y H Q => ∃ (c : Nat) (z : Str), x = .str ⟨#[c]⟩ ∧ y = .str z ∧ Q (.bl (decide (c ∈ z.cps.toList))) H
theorem op_inSg {X : Cx} : OpR X (compareOp .In) rInSg := op_in_sign
theorem ed_inSg {c : Nat} {z : Str} (ha : ED K b ta σ H (.str ⟨#[c]⟩)) (hb : ED K b tb σ H (.str z)) : ED K b (tOp rInSg ta tb) σ H (.bool (decide (c ∈ z.cps.toList))) :=
  ed_op ha hb fun H1 x y Q _ hx hy q => ⟨c, z, dq_str hx, dq_str hy, q _ H1 (Ex.refl H1) (.bl _)⟩
/-- sep.join(texts) -/
def rJoin (K : PySem.W.Frag) : V → List V → Hp → VK → Prop := fun x xs H Q => ∃ a p, ∃ ys : List Str, x = .str a ∧ xs = [.ref p] ∧ (SqL K H p (ys.map V.str) ∨ SqT K H p (ys.map V.str)) ∧ (ys.map (·.length)).sum + ys.length * a.length ≤ 16777216 ∧ Q (.str (Txt.join a ys)) H
theorem mt_joinD {X : Cx} : MtR X "str.join" (rJoin X.K) := mt_join
theorem ed_join {z : Str} {ys : List Str} (ha : ED K b ta σ H (.str z)) (hb : ED K b tb σ H (.list (ys.map PyData.str))) (hl : (ys.map (·.length)).sum + ys.length * z.length ≤ 16777216) : ED K b (tBM K "str" (rJoin K) ta (tCons tb tNil)) σ H (.str (Txt.join z ys)) := fun H1 x1 Q q =>
  ha H1 x1 _ fun x H2 x2 hx => by
    cases hx
    refine ⟨rfl, hb H2 (x1.trans x2) _ fun y H3 x3 hy => ?_⟩
    have hy' := hy.dd
    cases hy' with
    | lst h1 h2 =>
      rw [dps_strs h2] at h1
      exact ⟨z, _, ys, rfl, rfl, .inl h1, hl, q _ H3 (x2.trans x3) (.str _)⟩
/-- text.split(sep) -/
def rSplit : V → List V → Hp → VK → Prop := fun x xs H Q => ∃ a b, x = .str a ∧ xs = [.str b] ∧ (b.length == 0) = false ∧ a.length + 2 ≤ sizeLine ∧ rNewStrs (Txt.split a b) H Q
theorem mt_splitD {X : Cx} : MtR X "str.split" rSplit := mt_split
theorem ed_split {z y : Str} (kn : Kn b H) (ha : ED K b ta σ H (.str z)) (hb : ED K b tb σ H (.str y)) (hy : (y.length == 0) = false) (hl : z.length + 2 ≤ sizeLine) : ED K b (tBM K "str" rSplit ta (tCons tb tNil)) σ H (.list ((Txt.split z y).map PyData.str)) := fun H1 x1 Q q =>
  ha H1 x1 _ fun x H2 x2 hx => by
    cases hx
    refine ⟨rfl, hb H2 (x1.trans x2) _ fun v H3 x3 hv => ?_⟩
    cases hv
    exact ⟨z, y, rfl, rfl, hy, hl, fun p hp => q _ _ ((x2.trans x3).trans (Ex.new hp)) (.lst (.inl (.inl (hid_new ((kn.up ((x1.trans x2).trans x3)).new hp)))) (strs_dps _))⟩
/-- len(..) not in range(lo, hi) -/
theorem ed_ninR {i lo hi : Int} {tlo thi : TE} (ha : ED K b ta σ H (.int i)) (h1 : ED K b tlo σ H (.int lo)) (h2 : ED K b thi σ H (.int hi)) :
    ED K b (tOp rNinR ta (tCB (fun vs H Q => ∃ i j, vs = [V.int i, V.int j] ∧ ∀ p, H p = none → Q (.ref p) (upd H p (.rng i j))) (tCons tlo (tCons thi tNil)))) σ H (.bool (!decide (lo ≤ i ∧ i < hi))) := fun H1 x1 Q q =>
  ha H1 x1 _ fun x H2 x2 hx => h1 H2 (x1.trans x2) _ fun y H3 x3 hy => h2 H3 ((x1.trans x2).trans x3) _ fun z H4 x4 hz => ⟨lo, hi, by rw [dq_int hy, dq_int hz], fun p hp =>
    ⟨i, p, lo, hi, dq_int hx, rfl, upd_same, q _ _ (((x2.trans x3).trans x4).trans (Ex.new hp)) (.bl _)⟩⟩
end
end Wr

set_option Elab.async false
set_option linter.all false
set_option maxRecDepth 100000
set_option maxHeartbeats 4000000
namespace Wr
open PySem PySem.Spec PyProof.Rows L2 Evl
/-! ### a heap that grows but for the bag at a -/
def ExB (a : Addr) (H H' : Hp) : Prop := ∀ c o, c ≠ a → H c = some o → H' c = some o
theorem ExB.refl (a : Addr) (H : Hp) : ExB a H H := fun _ _ _ h => h
theorem ExB.trans {a : Addr} {H H1 H2 : Hp} (x : ExB a H H1) (y : ExB a H1 H2) : ExB a H H2 := fun c o n h => y c o n (x c o n h)
theorem exb {a : Addr} {H H1 : Hp} (x : Ex H H1) : ExB a H H1 := fun c o _ h => x c o h
theorem hid_exB {b : List Addr} {a : Addr} {H H' : Hp} (ha : a ∈ b) (e : ExB a H H') : Ex (hid b H) (hid b H') := fun c o h => by
  obtain ⟨h1, h2⟩ := hid_some h
  rw [hid_ne h1]
  exact e c o (fun z => h1 (z ▸ ha)) h2
theorem Dq.upB {K : PySem.W.Frag} {b : List Addr} {a : Addr} {H H' : Hp} {v : V} {d : PyData} (ha : a ∈ b) (h : Dq K b H v d) (e : ExB a H H') : Dq K b H' v d := dp_ex (hid_exB ha e) d v h
theorem DqAll.upB {K : PySem.W.Frag} {b : List Addr} {a : Addr} {H H' : Hp} {vs : List V} {ds : List PyData} (ha : a ∈ b) (h : DqAll K b H vs ds) (e : ExB a H H') : DqAll K b H' vs ds := dps_ex (hid_exB ha e) ds vs h
/-- the bag at a: the digits that are left, and what is mixed -/
def Bag (a : Addr) (_ : Nat) (H : Hp) : Prop := ∃ g x : Int, H a = some (.lst [.int g, .int x]) ∧ 0 ≤ g ∧ 0 ≤ x ∧ x < 2147483648
theorem Bag.any {a : Addr} {n m : Nat} {H : Hp} (h : Bag a n H) : Bag a m H := h
theorem Bag.le {a : Addr} {n m : Nat} {H : Hp} (h : Bag a n H) (_ : m ≤ n) : Bag a m H := h
theorem Bag.ex {a : Addr} {n : Nat} {H H' : Hp} (h : Bag a n H) (e : Ex H H') : Bag a n H' := by
  obtain ⟨g, x, h1, r⟩ := h
  exact ⟨g, x, e _ _ h1, r⟩
theorem Bag.there {a : Addr} {n : Nat} {H : Hp} (h : Bag a n H) : H a ≠ none := by
  obtain ⟨g, x, h1, _⟩ := h
  rw [h1]
  intro z
  cases z
theorem Bag.kn {a : Addr} {n : Nat} {H : Hp} (h : Bag a n H) : Kn [a] H := fun c hc => by
  rw [List.mem_singleton.mp hc]
  exact h.there
theorem ExB.kn {a : Addr} {n : Nat} {b : List Addr} {H H' : Hp} (k : Kn b H) (x : ExB a H H') (h : Bag a n H') : Kn b H' := fun c hc z => by
  by_cases e : c = a
  · subst e
    exact h.there z
  · cases q : H c with
    | none => exact k c hc q
    | some o =>
      rw [x c o e q] at z
      cases z
/-! ### what is evaluated while things are taken from the bag -/
section
variable (K : PySem.W.Frag) (b : List Addr) (a : Addr) (n m : Nat)
def EG (te : TE) (σ : L2.St) (H : Hp) (P : PyData → Prop) : Prop := ∀ H1, ExB a H H1 → Kn b H1 → Bag a n H1 → ∀ Q : VK, (∀ v d H2, ExB a H1 H2 → Bag a m H2 → Dq K b H2 v d → P d → Q v H2) → te σ H1 Q
def EGA (ta : TA) (σ : L2.St) (H : Hp) (P : List PyData → Prop) : Prop := ∀ H1, ExB a H H1 → Kn b H1 → Bag a n H1 → ∀ Q : List V → Hp → Prop, (∀ vs ds H2, ExB a H1 H2 → Bag a m H2 → DqAll K b H2 vs ds → P ds → Q vs H2) → ta σ H1 Q
def GS (ts : TS) (σ : L2.St) (H : Hp) (P : PyData → Prop) : Prop := ∀ H1, ExB a H H1 → Kn b H1 → Bag a n H1 → ∀ D : Ends, (∀ v d H2, ExB a H1 H2 → Bag a m H2 → Dq K b H2 v d → P d → D.rt v H2) → ts D σ H1
end
theorem EG.any {K : PySem.W.Frag} {b : List Addr} {a : Addr} {n m n' m' : Nat} {te : TE} {σ : L2.St} {H : Hp} {P : PyData → Prop} (h : EG K b a n m te σ H P) : EG K b a n' m' te σ H P := h
theorem EGA.any {K : PySem.W.Frag} {b : List Addr} {a : Addr} {n m n' m' : Nat} {te : TA} {σ : L2.St} {H : Hp} {P : List PyData → Prop} (h : EGA K b a n m te σ H P) : EGA K b a n' m' te σ H P := h
theorem GS.any {K : PySem.W.Frag} {b : List Addr} {a : Addr} {n m n' m' : Nat} {te : TS} {σ : L2.St} {H : Hp} {P : PyData → Prop} (h : GS K b a n m te σ H P) : GS K b a n' m' te σ H P := h
def spG (K : PySem.W.Frag) (n : Nat) (pre : List PyData → Prop) (P : List PyData → PyData → Prop) : Sp := fun vs H Q _ =>
  ∃ b a k ws ds, vs = .ref a :: ws ∧ a ∈ b ∧ Kn b H ∧ Bag a (k + n) H ∧ DqAll K b H ws ds ∧ pre ds ∧ ∀ v d H', ExB a H H' → Bag a k H' → Dq K b H' v d → P ds d → Q v H'
section
variable {K : PySem.W.Frag} {b : List Addr} {a : Addr} {n m k : Nat} {σ : L2.St} {H H' : Hp} {ta tb te : TE} {t : TA} {tt : TT} {ts t1 t2 : TS} {P P' : PyData → Prop} {d : PyData}
theorem EG.imp (h : EG K b a n m te σ H P) (hp : ∀ d, P d → P' d) : EG K b a n m te σ H P' := fun H1 x1 kn bg Q q => h H1 x1 kn bg Q fun v d H2 x2 b2 hv p => q v d H2 x2 b2 hv (hp d p)
theorem EG.mono (x : ExB a H H') (h : EG K b a n m te σ H P) : EG K b a n m te σ H' P := fun H1 x1 => h H1 (x.trans x1)
theorem EG.le {m' : Nat} (h : EG K b a n m te σ H P) (hm : m' ≤ m) : EG K b a n m' te σ H P := fun H1 x1 kn bg Q q => h H1 x1 kn bg Q fun v d H2 x2 b2 hv p => q v d H2 x2 (b2.le hm) hv p
theorem eg_pure (h : ∀ H1, ExB a H H1 → Kn b H1 → ED K b te σ H1 d) (p : P d) : EG K b a n n te σ H P := fun H1 x1 kn bg Q q => h H1 x1 kn H1 (Ex.refl H1) Q fun v H2 x2 hv => q v d H2 (exb x2) (bg.ex x2) hv p
theorem eg_var {i : Nat} {v : V} (hv : σ[i]? = some (some v)) (ha : a ∈ b) (hd : Dq K b H v d) (p : P d) : EG K b a n n (tVar i) σ H P := eg_pure (fun H1 x1 _ => ed_var hv (hd.upB ha x1)) p
theorem ega_nil : EGA K b a n n tNil σ H (· = []) := fun H1 x1 kn bg Q q => q [] [] H1 (ExB.refl a H1) bg .nil rfl
theorem ega_cons {R : List PyData → Prop} (ha : a ∈ b) (h1 : EG K b a n k ta σ H P) (h2 : EGA K b a k m t σ H R) : EGA K b a n m (tCons ta t) σ H (fun ds => ∃ d r, ds = d :: r ∧ P d ∧ R r) := fun H1 x1 kn bg Q q =>
  h1 H1 x1 kn bg _ fun v d H2 x2 b2 hv p => h2 H2 (x1.trans x2) (x2.kn kn b2) b2 _ fun vs ds H3 x3 b3 hvs r => q _ (d :: ds) H3 (x2.trans x3) b3 (.cons (hv.upB ha x3) hvs) ⟨d, ds, rfl, p, r⟩
/-- a call of a def that takes from the bag -/
theorem eg_call {c : Nat} {pre : List PyData → Prop} {R : List PyData → PyData → Prop} {S : List PyData → Prop} {E : XK} {i : Nat} (ha : a ∈ b) (hb : σ[i]? = some (some (.ref a))) (hargs : EGA K b a n (m + c) t σ H S) (hp : ∀ ds, S ds → pre ds) (hr : ∀ ds d, S ds → R ds d → P d) :
    EG K b a n m (tCall (spG K c pre R) [] E (tCons (tVar i) t)) σ H P := fun H1 x1 kn bg Q q =>
  ⟨.ref a, hb, hargs H1 x1 kn bg _ fun vs ds H2 x2 b2 hvs s => ⟨b, a, m, vs, ds, by rw [List.append_nil], ha, x2.kn kn b2, b2, hvs, hp ds s, fun v d H3 x3 b3 hv r => q v d H3 (x2.trans x3) b3 hv (hr ds d s r)⟩⟩
theorem gs_ret (h : EG K b a n m te σ H P) : GS K b a n m (tRet te) σ H P := fun H1 x1 kn bg D q => h H1 x1 kn bg _ q
theorem gs_if {c : Bool} (hc : ∀ H1, ExB a H H1 → Kn b H1 → EvT tt σ H1 c) (h1 : c = true → GS K b a n m t1 σ H P) (h2 : c = false → GS K b a n m t2 σ H P) : GS K b a n m (tSeq (tIfS tt t1 tNext) t2) σ H P := fun H1 x1 kn bg D q =>
  hc H1 x1 kn H1 (Ex.refl H1) _ fun H2 x2 => by
    cases c with
    | true =>
      rw [if_pos rfl]
      exact h1 rfl H2 (x1.trans (exb x2)) (kn.up x2) (bg.ex x2) _ fun v d H3 x3 b3 hv p => q v d H3 ((exb x2).trans x3) b3 hv p
    | false =>
      rw [if_neg Bool.false_ne_true]
      exact h2 rfl H2 (x1.trans (exb x2)) (kn.up x2) (bg.ex x2) _ fun v d H3 x3 b3 hv p => q v d H3 ((exb x2).trans x3) b3 hv p
theorem gs_set {i : Nat} {P1 : PyData → Prop} (h : EG K b a n k te σ H P1) (kk : ∀ v d H', ExB a H H' → Dq K b H' v d → P1 d → GS K b a k m ts (σ.set i (some v)) H' P) : GS K b a n m (tSeq (tAsg te (gName i)) ts) σ H P := fun H1 x1 kn bg D q =>
  h H1 x1 kn bg _ fun v d H2 x2 b2 hv p => kk v d H2 (x1.trans x2) hv p H2 (ExB.refl a H2) (x2.kn kn b2) b2 D fun v' d' H3 x3 b3 hv' p' => q v' d' H3 (x2.trans x3) b3 hv' p'
/-- a conditional expression whose test is pure -/
theorem eg_if {c : Bool} (hc : ∀ H1, ExB a H H1 → Kn b H1 → EvT tt σ H1 c) (h1 : c = true → EG K b a n m ta σ H P) (h2 : c = false → EG K b a n m tb σ H P) : EG K b a n m (tIf tt ta tb) σ H P := fun H1 x1 kn bg Q q =>
  hc H1 x1 kn H1 (Ex.refl H1) _ fun H2 x2 => by
    cases c with
    | true =>
      rw [if_pos rfl]
      exact h1 rfl H2 (x1.trans (exb x2)) (kn.up x2) (bg.ex x2) _ fun v d H3 x3 b3 hv p => q v d H3 ((exb x2).trans x3) b3 hv p
    | false =>
      rw [if_neg Bool.false_ne_true]
      exact h2 rfl H2 (x1.trans (exb x2)) (kn.up x2) (bg.ex x2) _ fun v d H3 x3 b3 hv p => q v d H3 ((exb x2).trans x3) b3 hv p
/-- two operands, the operation pure on their data -/
theorem eg_op {r : R2} {P1 P2 : PyData → Prop} (ha : a ∈ b) (h1 : EG K b a n k ta σ H P1) (h2 : EG K b a k m tb σ H P2) (hr : ∀ d e H1 x y (Q : VK), P1 d → P2 e → ExB a H H1 → Kn b H1 → Dq K b H1 x d → Dq K b H1 y e → (∀ v z H2, Ex H1 H2 → Dq K b H2 v z → P z → Q v H2) → r x y H1 Q) : EG K b a n m (tOp r ta tb) σ H P := fun H1 x1 kn bg Q q =>
  h1 H1 x1 kn bg _ fun v d H2 x2 b2 hv p1 => h2 H2 (x1.trans x2) (x2.kn kn b2) b2 _ fun w e H3 x3 b3 hw p2 =>
    hr d e H3 v w Q p1 p2 ((x1.trans x2).trans x3) (x3.kn (x2.kn kn b2) b3) (hv.upB ha x3) hw fun u z H4 x4 hu p => q u z H4 ((x2.trans x3).trans (exb x4)) (b3.ex x4) hu p
/-- a new tuple of what is evaluated -/
theorem eg_tup {R : List PyData → Prop} (h : EGA K b a n m t σ H R) (hl : ∀ ds, R ds → ds.length ≤ sizeLine ∧ P (.tuple ds)) : EG K b a n m (tTupF t) σ H P := fun H1 x1 kn bg Q q =>
  h H1 x1 kn bg _ fun vs ds H2 x2 b2 hvs r => ⟨by rw [dps_len hvs]; exact (hl ds r).1, fun p o hp ho => by
    have e := hid_new (o := HO.frz o (.tup vs)) (H := H2) ((x2.kn kn b2).new hp)
    exact q _ (.tuple ds) _ (x2.trans (exb (Ex.new hp))) (b2.ex (Ex.new hp)) (.tup (.inl (.inr ⟨_, e⟩)) (.inl ⟨_, _, e, ho⟩) (hvs.up (Ex.new hp))) (hl ds r).2⟩
end
theorem GS.fin {K : PySem.W.Frag} {b : List Addr} {a : Addr} {n m : Nat} {σ : L2.St} {H : Hp} {ts : TS} {P : PyData → Prop} {D : Ends} (h : GS K b a n m ts σ H P) (kn : Kn b H) (bg : Bag a n H) (q : ∀ v d H', ExB a H H' → Bag a m H' → Dq K b H' v d → P d → D.rt v H') : ts D σ H := h H (ExB.refl a H) kn bg D q
/-! ### wide powers -/
def CPowW (i j : Int) : Prop := 0 ≤ j ∧ j ≤ 100 ∧ i.natAbs < 2 ^ 1000
theorem op_powW {X : Cx} : OpR X (binaryOp .Pow) (rI CPowW fun i j => .int (i ^ j.toNat)) := opI fun i j _ _ _ _ _ hc q => pow_int hc.1 (by
  have hlog : i.natAbs.log2 < 1000 := by
    by_cases h0 : i.natAbs = 0
    · rw [h0]; decide
    · exact (Nat.log2_lt h0).mpr hc.2.2
  have h1 : (Builtin.Int.intBits i : Nat) ≤ 1001 := by
    unfold Builtin.Int.intBits
    split <;> omega
  have h2 := hc.2.1
  have h3 := hc.1
  have h4 : ((Builtin.Int.intBits i : Nat) : Int) ≤ 1001 := by omega
  have h5 : ((Builtin.Int.intBits i : Nat) : Int) * j ≤ 1001 * 100 := Int.mul_le_mul h4 h2 h3 (by decide)
  exact Int.le_trans h5 (by decide)) q
end Wr

set_option Elab.async false
set_option linter.all false
set_option maxRecDepth 100000
set_option maxHeartbeats 4000000
namespace Wr
open PySem PySem.Spec PyProof.Rows L2 Evl
abbrev s_take : Stmt := topS 20
abbrev NT : List Str := ["_law_bag_here", "_law_many", "_law_digit"]
theorem sc_take : FnScope NT ["_law_bag_here", "_law_many"] (defScope s_take) := ⟨rfl, rfl, rfl, by decide +kernel, rfl, by decide +kernel, by decide +kernel⟩
def TakePre (ds : List PyData) : Prop := ∃ m, ds = [.int m] ∧ 0 < m ∧ m < 1073741824
def TakeR (ds : List PyData) (d : PyData) : Prop := ∃ m r, ds = [.int m] ∧ d = .int r ∧ 0 ≤ r ∧ r < m
abbrev spTake (K : PySem.W.Frag) : Sp := spG K 0 TakePre TakeR
theorem spG_len {K : PySem.W.Frag} {n k : Nat} {pre : List PyData → Prop} {R : List PyData → PyData → Prop} (hl : ∀ ds, pre ds → ds.length = k) {vs : List V} {H : Hp} {Q : VK} {E : XK} (h : spG K n pre R vs H Q E) : vs.length = k + 1 := by
  obtain ⟨b, a, k', ws, ds, rfl, _, _, _, hd, hp, _⟩ := h
  rw [List.length_cons, dps_len hd, hl ds hp]
section
variable {K : PySem.W.Frag} {b : List Addr} {σ : L2.St} {H H' : Hp} {ta tb te : TE}
theorem gnext {D : Ends} {σ : L2.St} {H : Hp} (h : D.nx σ H) : tNext D σ H := h
theorem g_set {D : Ends} {i : Nat} {ts : TS} {d : PyData} (h : ED K b te σ H d) (k : ∀ v H', Ex H H' → Dq K b H' v d → ts D (σ.set i (some v)) H') : tSeq (tAsg te (gName i)) ts D σ H := h H (Ex.refl H) _ fun v H' x hv => k v H' x hv
/-- an item of the bag -/
theorem ed_bag {a : Addr} {xs : List V} {i j : Nat} {k : Int} (hs : σ[j]? = some (some (.ref a))) (h : H a = some (.lst xs)) (hi : xs[i]? = some (.int k)) : ED K b (tOp (rIxL K) (tVar j) (tC (.int (i : Nat)))) σ H (.int k) := fun H1 x1 Q q =>
  ⟨.ref a, hs, a, xs, (i : Nat), .int k, rfl, rfl, .inl (.inl (x1 _ _ h)), atI_nat hi, q _ H1 (Ex.refl H1) (.int _)⟩
theorem ed_mul {i j : Int} (ha : ED K b ta σ H (.int i)) (hb : ED K b tb σ H (.int j)) (hc : CMul i j) : ED K b (tOp (rI CMul fun i j => .int (i * j)) ta tb) σ H (.int (i * j)) := ed_I ha hb hc fun _ => .int _
theorem ed_mod {i j : Int} (ha : ED K b ta σ H (.int i)) (hb : ED K b tb σ H (.int j)) (hc : 0 < j) : ED K b (tOp (rI (fun _ j => 0 < j) fun i j => .int (i % j)) ta tb) σ H (.int (i % j)) := ed_I ha hb hc fun _ => .int _
theorem ed_fdiv {i j : Int} (ha : ED K b ta σ H (.int i)) (hb : ED K b tb σ H (.int j)) (hc : CDiv i j) : ED K b (tOp (rI CDiv fun i j => .int (i / j)) ta tb) σ H (.int (i / j)) := ed_I ha hb hc fun _ => .int _
theorem ed_powW {i j : Int} (ha : ED K b ta σ H (.int i)) (hb : ED K b tb σ H (.int j)) (hc : CPowW i j) : ED K b (tOp (rI CPowW fun i j => .int (i ^ j.toNat)) ta tb) σ H (.int (i ^ j.toNat)) := ed_I ha hb hc fun _ => .int _
end
section
variable {P : Program} {w : World} {K : PySem.W.Frag} {mg : Str → Option Value} {base : Heap} {f g g2 : Addr} {fd gd gd2 : FuncData}
theorem ok_take (D : Def K mg "_law_take" s_take ["_law_bag_here", "_law_many"] f fd) : FnOk P w K mg base CX0 1 f fd ["_law_bag_here", "_law_many"] (spTake K) := by
  refine D.F.ok sc_take (fun vs H Q E h => spG_len (fun ds ⟨m, e, _⟩ => by rw [e]; rfl) h) (fun cdv A outer s H vs Q E hr h => ?_)
  obtain ⟨b, a, k, ws, ds, rfl, hab, kn, ⟨gg, x, hb, g0, x0, x1⟩, hd, ⟨m, rfl, m0, m1⟩, q⟩ := h
  obtain ⟨v, d, rfl, ed, hv⟩ := one_of hd rfl
  cases ed
  have ev := dq_int hv
  subst ev
  refine ⟨_, pss_cons (ps_if (pt_cmpR op_gt (pe_ix ix_list (pv 0) pe_int (fun _ _ => rfl)) pe_int (nomark _))
      (pss_cons (ps_set (i := 2) sc_take.nd rfl (Or.inl rfl) (pe_op op_mod (pe_ix ix_list (pv 0) pe_int (fun _ _ => rfl)) (pv 1)))
      (pss_cons (ps_asg (pe_op op_fdiv (pe_ix ix_list (pv 0) pe_int (fun _ _ => rfl)) (pv 1)) (pg_sub (pv 0) pe_int set_list))
      (pss_one (ps_ret (pv 2))))) pss_nil)
    (pss_cons (ps_asg (pe_op op_mod (pe_op op_add (pe_op op_mul (pe_ix ix_list (pv 0) pe_int (fun _ _ => rfl)) pe_int) pe_int) pe_int) (pg_sub (pv 0) pe_int set_list))
    (pss_one (ps_ret (pe_op op_mod (pe_op op_mod (pe_op op_mul (pe_op op_fdiv (pe_op op_mod (pe_op op_powW (pe_ix ix_list (pv 0) pe_int (fun _ _ => rfl)) pe_int) pe_int) pe_int) pe_int) pe_int) (pv 1))))), ?_⟩
  refine et_t (K := K) (b := b) (ed_gt (ed_bag (i := 0) rfl hb rfl) ed_int) H (Ex.refl H) _ fun H1 y1 => ?_
  by_cases hg : (0 : Int) < gg
  · rw [decide_eq_true hg, if_pos rfl]
    refine (ed_mod (K := K) (b := b) (ed_bag (i := 0) rfl (y1 _ _ hb) rfl) (ed_var (d := .int m) rfl (.int m)) m0) H1 (Ex.refl H1) _ fun v2 H2 y2 hv2 => ?_
    have e2 := dq_int hv2
    subst e2
    refine (ed_fdiv (K := K) (b := b) (ed_bag (i := 0) rfl (y2 _ _ (y1 _ _ hb)) rfl) (ed_var (d := .int m) rfl (.int m)) ⟨m0, m1⟩) H2 (Ex.refl H2) _ fun v3 H3 y3 hv3 => ?_
    have e3 := dq_int hv3
    subst e3
    have hb3 := y3 _ _ (y2 _ _ (y1 _ _ hb))
    refine ⟨.ref a, rfl, a, _, 0, 0, rfl, rfl, hb3, rfl, _, rfl, ?_⟩
    refine q _ (.int (gg % m)) _ (fun c o n h => ?_) ⟨gg / m, x, upd_same, Int.ediv_nonneg g0 (by omega), x0, x1⟩ (.int _) ⟨m, gg % m, rfl, rfl, Int.emod_nonneg _ (by omega), Int.emod_lt_of_pos _ m0⟩
    rw [upd_ne n]
    exact y3 _ _ (y2 _ _ (y1 _ _ h))
  · rw [decide_eq_false hg, if_neg Bool.false_ne_true]
    refine gnext ?_
    have hb1 := y1 _ _ hb
    refine (ed_mod (K := K) (b := b) (ed_add (ed_mul (ed_bag (i := 1) rfl hb1 rfl) ed_int (.inr ⟨by decide, by decide⟩)) ed_int) ed_int (by decide)) H1 (Ex.refl H1) _ fun v2 H2 y2 hv2 => ?_
    have e2 := dq_int hv2
    subst e2
    have z0 := Int.emod_nonneg (x * 48271 + 7919) (show (2147483647 : Int) ≠ 0 by decide)
    have z1 := Int.emod_lt_of_pos (x * 48271 + 7919) (show (0 : Int) < 2147483647 by decide)
    generalize (x * 48271 + 7919) % 2147483647 = z at z0 z1
    have hb2 := y2 _ _ hb1
    refine ⟨.ref a, rfl, a, _, 1, 1, rfl, rfl, hb2, rfl, ?_⟩
    have hb4 : (upd H2 a (.lst ([V.int gg, .int x].set 1 (.int z)))) a = some (.lst [.int gg, .int z]) := upd_same
    have hx4 : ExB a H (upd H2 a (.lst ([V.int gg, .int x].set 1 (.int z)))) := fun c o n h => by
      rw [upd_ne n]
      exact y2 _ _ (y1 _ _ h)
    generalize upd H2 a (.lst ([V.int gg, .int x].set 1 (.int z))) = H4 at hb4 hx4
    have hpw : CPowW z 3 := ⟨by decide, by decide, Nat.lt_of_lt_of_le (show z.natAbs < 2 ^ 31 by omega) (by decide)⟩
    have p0 := Int.emod_nonneg (z ^ (3 : Int).toNat) (show (2147483587 : Int) ≠ 0 by decide)
    have p1 := Int.emod_lt_of_pos (z ^ (3 : Int).toNat) (show (0 : Int) < 2147483587 by decide)
    refine (ed_mod (K := K) (b := b) (ed_mod (ed_mul (ed_fdiv (ed_mod (ed_powW (ed_bag (i := 1) rfl hb4 rfl) ed_int hpw) ed_int (by decide)) ed_int ⟨by decide, by decide⟩) ed_int (.inr ⟨by decide, by decide⟩)) ed_int (by decide)) (ed_var (d := .int m) rfl (.int m)) m0) H4 (Ex.refl H4) _ fun v8 H8 y8 hv8 => ?_
    exact q _ _ _ (hx4.trans (exb y8)) ⟨gg, z, y8 _ _ hb4, g0, z0, by omega⟩ hv8 ⟨m, _, rfl, rfl, Int.emod_nonneg _ (by omega), Int.emod_lt_of_pos _ m0⟩
end
end Wr

set_option Elab.async false
set_option linter.all false
set_option maxRecDepth 100000
set_option maxHeartbeats 4000000
namespace Wr
open PySem PySem.Spec PyProof.Rows L2 Evl
abbrev NN2 : List Str := ["_law_bag_here", "_law_many", "_law_letters", "_law_first", "_law_long", "_law_k"]
def IntB (m : Int) (d : PyData) : Prop := ∃ r, d = .int r ∧ 0 ≤ r ∧ r < m
section
variable {K : PySem.W.Frag} {b : List Addr} {a : Addr} {n m k : Nat} {σ : L2.St} {H H' : Hp} {ta tb te : TE} {t : TA} {tt : TT} {ts t1 t2 : TS} {P P' : PyData → Prop} {d : PyData}
theorem eg_takeE {i : Nat} {u : Int} {P1 : PyData → Prop} {E : XK} (ha : a ∈ b) (hb : σ[i]? = some (some (.ref a))) (h : EG K b a n m te σ H P1) (hp : ∀ d, P1 d → ∃ j, d = .int j ∧ 0 < j ∧ j < 1073741824 ∧ j ≤ u) : EG K b a n m (tCall (spTake K) [] E (tCons (tVar i) (tCons te tNil))) σ H (IntB u) :=
  eg_call ha hb (ega_cons ha h ega_nil) (fun ds ⟨d, r, e, p, er⟩ => by
    obtain ⟨j, rfl, h1, h2, _⟩ := hp d p
    subst er
    exact ⟨j, e, h1, h2⟩) fun ds d ⟨d', r, e, p, er⟩ ⟨j, x, e1, e2, h1, h2⟩ => by
    obtain ⟨j', rfl, _, _, h3⟩ := hp d' p
    subst er
    rw [e] at e1
    have ej : j' = j := by injection e1 with e1 _; injection e1
    exact ⟨x, e2, h1, by omega⟩
theorem eg_take {i : Nat} {u : Int} {E : XK} (ha : a ∈ b) (hb : σ[i]? = some (some (.ref a))) (h0 : 0 < u) (h1 : u < 1073741824) : EG K b a n n (tCall (spTake K) [] E (tCons (tVar i) (tCons (tC (.int u)) tNil))) σ H (IntB u) :=
  eg_takeE (P1 := fun d => d = .int u) ha hb (eg_pure (fun _ _ _ => ed_int) rfl) fun d e => ⟨u, e, h0, h1, Int.le_refl u⟩
theorem eg_ixL {P1 P2 : PyData → Prop} (ha : a ∈ b) (h1 : EG K b a n k ta σ H P1) (h2 : EG K b a k m tb σ H P2) (hi : ∀ d e, P1 d → P2 e → ∃ ds i z, d = .list ds ∧ e = .int i ∧ atI ds i = some z ∧ P z) : EG K b a n m (tOp (rIxL K) ta tb) σ H P :=
  eg_op ha h1 h2 fun d e H1 x y Q p1 p2 _ _ hx hy q => by
    obtain ⟨ds, i, z, rfl, rfl, hz, p⟩ := hi d e p1 p2
    cases hx with
    | lst g1 g2 =>
      obtain ⟨v, q1, q2⟩ := dps_atI g2 hz
      exact ⟨_, _, i, v, rfl, dq_int hy, ex_l hid_le g1, q1, q v z H1 (Ex.refl H1) q2 p⟩
theorem eg_I0 {g : Int → Int → Int} {P1 P2 : PyData → Prop} (ha : a ∈ b) (h1 : EG K b a n k ta σ H P1) (h2 : EG K b a k m tb σ H P2) (hi : ∀ d e, P1 d → P2 e → ∃ i j, d = .int i ∧ e = .int j ∧ P (.int (g i j))) : EG K b a n m (tOp (rI0 fun i j => .int (g i j)) ta tb) σ H P :=
  eg_op ha h1 h2 fun d e H1 x y Q p1 p2 _ _ hx hy q => by
    obtain ⟨i, j, rfl, rfl, p⟩ := hi d e p1 p2
    exact ⟨i, j, dq_int hx, dq_int hy, q _ _ H1 (Ex.refl H1) (.int _) p⟩
theorem intB_at {ds : List PyData} {u : Int} {d : PyData} (h : IntB u d) (hu : u ≤ ds.length) : ∃ i z, d = .int i ∧ atI ds i = some z ∧ z ∈ ds := by
  obtain ⟨r, rfl, h0, h1⟩ := h
  have hr : r.toNat < ds.length := by omega
  have e : ((r.toNat : Nat) : Int) = r := Int.toNat_of_nonneg h0
  have q := atI_nat (xs := ds) (j := r.toNat) (List.getElem?_eq_getElem hr)
  rw [e] at q
  exact ⟨r, ds[r.toNat], rfl, q, List.getElem_mem hr⟩
end
section
variable {P : Program} {w : World} {K : PySem.W.Frag} {mg : Str → Option Value} {base : Heap} {f g g2 : Addr} {fd gd gd2 : FuncData}
end
end Wr

set_option Elab.async false
set_option linter.all false
set_option maxRecDepth 100000
set_option maxHeartbeats 4000000
namespace Wr
open PySem PySem.Spec PyProof.Rows L2 Evl
/-! ### how great data are -/
def okL (L : Nat) : Nat → PyData → Bool
  | _, .none => true
  | _, .bool _ => true
  | _, .int i => decide (i.natAbs < 10 ^ 40 + L)
  | _, .str x => PyData.strOk x && decide (x.length ≤ 1000)
  | n + 1, .list ds => decide (ds.length ≤ L) && ds.all (okL L n)
  | n + 1, .tuple ds => decide (ds.length ≤ L) && ds.all (okL L n)
  | _, _ => false
theorem int_room {L i : Nat} (hL : L ≤ 1000) (h : i < 10 ^ 40 + L) : i < 10 ^ 45 := by
  have : (10 ^ 40 + 1000 : Nat) < 10 ^ 45 := by decide
  omega
theorem okL_ok {L : Nat} (hL : L ≤ 1000) : ∀ (n : Nat) (d : PyData), okL L n d = true → okD n d = true
  | 0, .none, _ => rfl
  | 0, .bool _, _ => rfl
  | 0, .int i, h => decide_eq_true (int_room hL (of_decide_eq_true h))
  | 0, .str x, h => h
  | 0, .list ds, h => by cases h
  | 0, .tuple ds, h => by cases h
  | 0, .dict _, h => by cases h
  | _ + 1, .none, _ => rfl
  | _ + 1, .bool _, _ => rfl
  | _ + 1, .int i, h => decide_eq_true (int_room hL (of_decide_eq_true h))
  | _ + 1, .str x, h => h
  | _ + 1, .dict _, h => by cases h
  | n + 1, .list ds, h => by
    have h' : (decide (ds.length ≤ L) && ds.all (okL L n)) = true := h
    show (decide (ds.length ≤ 1000) && ds.all (okD n)) = true
    rw [Bool.and_eq_true] at h' ⊢
    exact ⟨decide_eq_true (Nat.le_trans (of_decide_eq_true h'.1) hL), List.all_eq_true.mpr fun d hd => okL_ok hL n d (List.all_eq_true.mp h'.2 d hd)⟩
  | n + 1, .tuple ds, h => by
    have h' : (decide (ds.length ≤ L) && ds.all (okL L n)) = true := h
    show (decide (ds.length ≤ 1000) && ds.all (okD n)) = true
    rw [Bool.and_eq_true] at h' ⊢
    exact ⟨decide_eq_true (Nat.le_trans (of_decide_eq_true h'.1) hL), List.all_eq_true.mpr fun d hd => okL_ok hL n d (List.all_eq_true.mp h'.2 d hd)⟩
theorem okL_up {L M : Nat} (hL : L ≤ M) : ∀ (n m : Nat) (d : PyData), n ≤ m → okL L n d = true → okL M m d = true
  | _, 0, .none, _, _ => rfl
  | _, _ + 1, .none, _, _ => rfl
  | _, 0, .bool _, _, _ => rfl
  | _, _ + 1, .bool _, _, _ => rfl
  | n, m, .int i, _, h => by
    have h' : decide (i.natAbs < 10 ^ 40 + L) = true := by cases n <;> exact h
    have h2 : decide (i.natAbs < 10 ^ 40 + M) = true := decide_eq_true (by have := of_decide_eq_true h'; omega)
    cases m <;> exact h2
  | n, m, .str x, _, h => by cases n <;> cases m <;> exact h
  | 0, _, .list ds, _, h => by cases h
  | 0, _, .tuple ds, _, h => by cases h
  | 0, _, .dict _, _, h => by cases h
  | _ + 1, _, .dict _, _, h => by cases h
  | n + 1, 0, .list ds, hm, h => by omega
  | n + 1, 0, .tuple ds, hm, h => by omega
  | n + 1, m + 1, .list ds, hm, h => by
    have h' : (decide (ds.length ≤ L) && ds.all (okL L n)) = true := h
    show (decide (ds.length ≤ M) && ds.all (okL M m)) = true
    rw [Bool.and_eq_true] at h' ⊢
    exact ⟨decide_eq_true (Nat.le_trans (of_decide_eq_true h'.1) hL), List.all_eq_true.mpr fun d hd => okL_up hL n m d (by omega) (List.all_eq_true.mp h'.2 d hd)⟩
  | n + 1, m + 1, .tuple ds, hm, h => by
    have h' : (decide (ds.length ≤ L) && ds.all (okL L n)) = true := h
    show (decide (ds.length ≤ M) && ds.all (okL M m)) = true
    rw [Bool.and_eq_true] at h' ⊢
    exact ⟨decide_eq_true (Nat.le_trans (of_decide_eq_true h'.1) hL), List.all_eq_true.mpr fun d hd => okL_up hL n m d (by omega) (List.all_eq_true.mp h'.2 d hd)⟩
theorem okL_tup {L n : Nat} {ds : List PyData} (hl : ds.length ≤ L) (h : ∀ d ∈ ds, okL L n d = true) : okL L (n + 1) (.tuple ds) = true := by
  show (decide (ds.length ≤ L) && ds.all (okL L n)) = true
  rw [decide_eq_true hl, Bool.true_and]
  exact List.all_eq_true.mpr h
theorem okL_items {L n : Nat} {ds : List PyData} (h : okL L (n + 1) (.tuple ds) = true) : ds.length ≤ L ∧ ∀ d ∈ ds, okL L n d = true := by
  have h' : (decide (ds.length ≤ L) && ds.all (okL L n)) = true := h
  rw [Bool.and_eq_true] at h'
  exact ⟨of_decide_eq_true h'.1, List.all_eq_true.mp h'.2⟩
mutual
def szD : PyData → Nat
  | .none => 4
  | .bool _ => 5
  | .int _ => 1921
  | .str x => 10 * x.length + 2
  | .list xs => szAll xs + 3
  | .tuple xs => szAll xs + 3
  | .dict _ => 0
def szAll : List PyData → Nat
  | [] => 0
  | x :: xs => szD x + 2 + szAll xs
end
theorem szAll_app (xs ys : List PyData) : szAll (xs ++ ys) = szAll xs + szAll ys := by
  induction xs with
  | nil => simp only [List.nil_append, szAll, Nat.zero_add]
  | cons x r ih =>
    simp only [List.cons_append, szAll, ih]
    omega
theorem szAll_le {c : Nat} : ∀ {xs : List PyData}, (∀ x ∈ xs, szD x ≤ c) → szAll xs ≤ xs.length * (c + 2)
  | [], _ => by simp only [szAll]; omega
  | x :: xs, h => by
    have h1 := h x List.mem_cons_self
    have h2 := szAll_le fun y hy => h y (List.mem_cons_of_mem _ hy)
    simp only [szAll, List.length_cons, Nat.add_mul]
    omega
theorem szD_str (x : Str) : szD (.str x) = 10 * x.length + 2 := by simp only [szD]
theorem szD_int (i : Int) : szD (.int i) = 1921 := by simp only [szD]
theorem szD_tup (xs : List PyData) : szD (.tuple xs) = szAll xs + 3 := by simp only [szD]
theorem szD_lst (xs : List PyData) : szD (.list xs) = szAll xs + 3 := by simp only [szD]
theorem name_len {x : Str} (h : nameS x = true) : x.length ≤ 8 := by
  unfold nameS at h
  rw [Bool.and_eq_true] at h
  exact of_decide_eq_true h.1
theorem okL_str {L n : Nat} {x : Str} (h : PyData.strOk x = true) (hl : x.length ≤ 1000) : okL L n (.str x) = true := by
  have e : (PyData.strOk x && decide (x.length ≤ 1000)) = true := by
    rw [h, decide_eq_true hl]
    rfl
  cases n <;> exact e
theorem okL_int {L n : Nat} {i : Int} (h : i.natAbs < 10 ^ 40) : okL L n (.int i) = true := by
  have h2 : decide (i.natAbs < 10 ^ 40 + L) = true := decide_eq_true (by omega)
  cases n <;> exact h2
end Wr

set_option Elab.async false
set_option linter.all false
set_option maxRecDepth 100000
set_option maxHeartbeats 4000000
namespace Wr
open PySem PySem.Spec PyProof.Rows L2 Evl
/-! ### tuples made, their object known -/
abbrev tupO (its : Array Value) : Obj := { cls := .type "tuple", data := .seq its }
theorem frz_new {P : Program} {w : World} {H : Hp} {h : Heap} {xs : List V} {its : List Value} (hz : xs.length ≤ sizeLine) (r : Vals xs its) : ObjOk P w (upd H h.objs.size (.frz (tupO its.toArray) (.tup xs))) (h.push (tupO its.toArray)) h.objs.size (.frz (tupO its.toArray) (.tup xs)) :=
  ⟨Heap.get?_push_size _ rfl, hz, its, r, ⟨_, Heap.get?_push_size _ rfl, rfl, _, rfl⟩⟩
def rTupOf (K : PySem.W.Frag) : List V → Hp → VK → Prop := fun xs H Q => ∃ p ys, xs = [.ref p] ∧ SqL K H p ys ∧ ∀ l o, H l = none → o.dict = none → Q (.ref l) (upd H l (.frz o (.tup ys)))
theorem call_tupF {X : Cx} : CallR X (.type "tuple") (rTupOf X.K) := by
  intro pins s σ H xs us Q I r ⟨p, ys, e, hq, q⟩
  subst e
  obtain ⟨u, rfl, rx⟩ := vals1 r
  cases rx
  obtain ⟨its, r', pl, hz⟩ := I.list hq
  have hlen := r'.length
  refine call_tuple_list pl.isList (fun h' kp => ?_) (by simp only [List.size_toArray] <;> omega)
  have I1 : Inv X pins σ H { s with heap := h' } := I.kept (t' := s.toks) kp
  exact ⟨.ref h'.objs.size, _, I1.laid (t' := s.toks) (fun b o e => Heap.get?_push_of_some _ e) (Nat.le_refl _) (frz_new hz r'), rfl, q _ _ (I1.hok.fresh (Nat.le_refl _)) rfl⟩
def rSlF (K : PySem.W.Frag) : V → Option Int → Option Int → Hp → VK → Prop := fun x lo hi H Q => ∃ a xs, x = .ref a ∧ SqT K H a xs ∧ (xs = cutV xs lo hi → Q (.ref a) H) ∧ ∀ p o, H p = none → o.dict = none → Q (.ref p) (upd H p (.frz o (.tup (cutV xs lo hi))))
theorem sl_tupF {X : Cx} : SlR X (rSlF X.K) := by
  intro pins s σ H x v vl vu lo hi sl Q I rx hs pl pu ⟨a, xs, e, hx, q1, q2⟩
  subst e
  cases rx
  obtain ⟨its, r, ht, hz⟩ := I.tuple hx
  have hlen : its.toArray.size = xs.length := by rw [List.size_toArray]; exact r.length.symm
  refine ⟨"tuple", _, PyProof.Rows.slot_tuple_getitem.lookup, ht.typeIs, ?_⟩
  by_cases hw : HT.sIx xs.length 0 lo = 0 ∧ HT.sIx xs.length xs.length hi = xs.length
  · refine getItem_tuple_whole ht hs pl pu (by rw [hlen]; exact hw) ⟨.ref a, H, I, rfl, q1 ?_⟩
    unfold cutV
    rw [hw.1, hw.2]
    simp
  · refine HT.getItem_tuple_cut ht hs pl pu (by rw [hlen]; exact hw) ?_ (by rw [hlen]; exact hz)
    rw [hlen]
    exact ⟨.ref s.heap.objs.size, _, I.laid (t' := s.toks) (fun b ob q => Heap.get?_push_of_some _ q) (Nat.le_refl _) (frz_new (Nat.le_trans (cutV_length xs lo hi) hz) ((r.drop (HT.sIx xs.length 0 lo)).take (HT.sIx xs.length xs.length hi - HT.sIx xs.length 0 lo))), rfl, q2 _ _ (I.hok.fresh (Nat.le_refl _)) rfl⟩
def rCatF (K : PySem.W.Frag) : R2 := fun x y H Q => ∃ a b xs ys, x = .ref a ∧ y = .ref b ∧ SqT K H a xs ∧ SqT K H b ys ∧ xs.length + ys.length ≤ sizeLine ∧ (xs = [] → Q (.ref b) H) ∧ (ys = [] → Q (.ref a) H) ∧ ∀ p o, H p = none → o.dict = none → Q (.ref p) (upd H p (.frz o (.tup (xs ++ ys))))
theorem op_catF {X : Cx} : OpR X (binaryOp .Add) (rCatF X.K) := by
  intro pins s σ H x y v u Q I rx ry ⟨a, b, xs, ys, e1, e2, ha, hb, hz, q0, q1, q2⟩
  subst e1 e2
  cases rx
  cases ry
  obtain ⟨its, r1, p1, _⟩ := I.tuple ha
  obtain ⟨its2, r2, p2, _⟩ := I.tuple hb
  by_cases hx : xs = []
  · subst hx
    cases r1
    exact cat_tup0 p1 p2 ⟨.ref b, H, I, rfl, q0 rfl⟩
  · refine HT.cat_tup p1 p2 (fun z => hx (r1.nil_iff.mp z)) (fun z => ⟨.ref a, H, I, rfl, q1 (r2.nil_iff.mp z)⟩) (fun z => ?_) (by rw [← r1.length, ← r2.length]; exact hz)
    exact ⟨.ref s.heap.objs.size, _, I.laid (t' := s.toks) (fun b ob q => Heap.get?_push_of_some _ q) (Nat.le_refl _) (frz_new (by rw [List.length_append]; exact hz) (r1.append r2)), rfl, q2 _ _ (I.hok.fresh (Nat.le_refl _)) rfl⟩
/-! ### on data -/
def cutD (ds : List PyData) (lo hi : Option Int) : List PyData := (ds.drop (HT.sIx ds.length 0 lo)).take (HT.sIx ds.length ds.length hi - HT.sIx ds.length 0 lo)
theorem cut_dps {K : PySem.W.Frag} {H : Hp} {vs : List V} {ds : List PyData} (h : DdAll K H vs ds) (lo hi : Option Int) : DdAll K H (cutV vs lo hi) (cutD ds lo hi) := by
  unfold cutV cutD
  rw [dps_len h]
  exact dps_take _ (dps_drop _ h)
section
variable {K : PySem.W.Frag} {b : List Addr} {a : Addr} {n m k : Nat} {σ : L2.St} {H H' : Hp} {ta tb te : TE} {t : TA} {P : PyData → Prop} {d : PyData} {ds es : List PyData}
theorem dq_newT {p : Addr} {o : Obj} {vs : List V} (kn : Kn b H) (hp : H p = none) (ho : o.dict = none) (hd : DqAll K b H vs ds) : Dq K b (upd H p (.frz o (.tup vs))) (.ref p) (.tuple ds) := by
  have e := hid_new (o := HO.frz o (.tup vs)) (H := H) (kn.new hp)
  exact .tup (.inl (.inr ⟨_, e⟩)) (.inl ⟨_, _, e, ho⟩) (DqAll.up hd (Ex.new hp))
def EO (to : TO) (σ : L2.St) (H : Hp) (o : Option Int) : Prop := ∀ H1, Ex H H1 → ∀ Q : Option Int → Hp → Prop, (∀ H2, Ex H1 H2 → Q o H2) → to σ H1 Q
theorem eo_none : EO tNoPart σ H none := fun H1 x Q q => q H1 (Ex.refl H1)
theorem eo_some {i : Int} (h : ED K b te σ H (.int i)) : EO (tPart te) σ H (some i) := fun H1 x Q q => h H1 x _ fun v H2 x2 hv => ⟨i, dq_int hv, q H2 x2⟩
theorem ed_slT {tl th : TO} {lo hi : Option Int} (kn : Kn b H) (ha : ED K b ta σ H (.tuple ds)) (h1 : EO tl σ H lo) (h2 : EO th σ H hi) : ED K b (tSl (rSlF K) ta tl th) σ H (.tuple (cutD ds lo hi)) := fun H1 x1 Q q =>
  ha H1 x1 _ fun x H2 x2 hx => h1 H2 (x1.trans x2) _ fun H3 x3 => h2 H3 ((x1.trans x2).trans x3) _ fun H4 x4 => by
    have hx4 := (hx.up x3).up x4
    have hx5 := hx4
    cases hx5 with
    | tup g1 gn g2 =>
      have kn4 := kn.up (((x1.trans x2).trans x3).trans x4)
      refine ⟨_, _, rfl, ex_t hid_le g1, fun e => ?_, fun p o hp ho => ?_⟩
      · have e2 : DdAll K (hid b H4) _ (cutD ds lo hi) := cut_dps g2 lo hi
        rw [← e] at e2
        exact q _ H4 ((x2.trans x3).trans x4) (.tup g1 gn e2)
      · exact q _ _ (((x2.trans x3).trans x4).trans (Ex.new hp)) (dq_newT kn4 hp ho (cut_dps g2 lo hi))
/-- t + u, as a rule on data -/
theorem cat_data {x y : V} {Q : VK} (kn : Kn b H) (hx : Dq K b H x (.tuple ds)) (hy : Dq K b H y (.tuple es)) (hl : ds.length + es.length ≤ sizeLine) (q : ∀ v H2, Ex H H2 → Dq K b H2 v (.tuple (ds ++ es)) → Q v H2) : rCatF K x y H Q := by
  have hx' := hx
  have hy' := hy
  cases hx' with
  | tup g1 gn g2 =>
    cases hy' with
    | tup f1 fn f2 =>
      refine ⟨_, _, _, _, rfl, rfl, ex_t hid_le g1, ex_t hid_le f1, by rw [dps_len g2, dps_len f2]; exact hl, fun e => ?_, fun e => ?_, fun p o hp ho => ?_⟩
      · subst e
        have : ds = [] := by cases g2; rfl
        subst this
        exact q _ H (Ex.refl H) hy
      · subst e
        have : es = [] := by cases f2; rfl
        subst this
        rw [List.append_nil] at q
        exact q _ H (Ex.refl H) hx
      · exact q _ _ (Ex.new hp) (dq_newT kn hp ho (dps_app g2 f2))
theorem ed_catT (kn : Kn b H) (ha : ED K b ta σ H (.tuple ds)) (hb : ED K b tb σ H (.tuple es)) (hl : ds.length + es.length ≤ sizeLine) : ED K b (tOp (rCatF K) ta tb) σ H (.tuple (ds ++ es)) :=
  ed_op ha hb fun H1 x y Q x1 hx hy q => cat_data (kn.up x1) hx hy hl fun v H2 x2 hv => q v H2 x2 hv
theorem eg_catT {P1 P2 : PyData → Prop} (ha : a ∈ b) (h1 : EG K b a n k ta σ H P1) (h2 : EG K b a k m tb σ H P2) (hi : ∀ d e, P1 d → P2 e → ∃ ds es, d = .tuple ds ∧ e = .tuple es ∧ ds.length + es.length ≤ sizeLine ∧ P (.tuple (ds ++ es))) : EG K b a n m (tOp (rCatF K) ta tb) σ H P :=
  eg_op ha h1 h2 fun d e H1 x y Q p1 p2 _ kn1 hx hy q => by
    obtain ⟨ds, es, rfl, rfl, hl, p⟩ := hi d e p1 p2
    exact cat_data kn1 hx hy hl fun v H2 x2 hv => q v _ H2 x2 hv p
theorem eg_lst {R : List PyData → Prop} (h : EGA K b a n m t σ H R) (hl : ∀ ds, R ds → ds.length ≤ sizeLine ∧ P (.list ds)) : EG K b a n m (tLst t) σ H P := fun H1 x1 kn bg Q q =>
  h H1 x1 kn bg _ fun vs ds H2 x2 b2 hvs r => ⟨by rw [dps_len hvs]; exact (hl ds r).1, fun p hp => q _ (.list ds) _ (x2.trans (exb (Ex.new hp))) (b2.ex (Ex.new hp)) (.lst (.inl (.inl (hid_new ((x2.kn kn b2).new hp)))) (hvs.up (Ex.new hp))) (hl ds r).2⟩
/-- tuple(list) -/
theorem eg_tupOf {P1 : PyData → Prop} (h : EG K b a n m ta σ H P1) (hi : ∀ d, P1 d → ∃ ds, d = .list ds ∧ P (.tuple ds)) : EG K b a n m (tCB (rTupOf K) (tCons ta tNil)) σ H P := fun H1 x1 kn bg Q q =>
  h H1 x1 kn bg _ fun v d H2 x2 b2 hv p1 => by
    obtain ⟨ds, rfl, p⟩ := hi d p1
    cases hv with
    | lst g1 g2 =>
      refine ⟨_, _, rfl, ex_l hid_le g1, fun l o hl ho => ?_⟩
      exact q _ (.tuple ds) _ (x2.trans (exb (Ex.new hl))) (b2.ex (Ex.new hl)) (dq_newT (x2.kn kn b2) hl ho g2) p
/-- a list's beginning, how much is drawn -/
theorem eg_slL {P1 P2 : PyData → Prop} (ha : a ∈ b) (h1 : EG K b a n k ta σ H P1) (h2 : EG K b a k m te σ H P2) (hi : ∀ d e, P1 d → P2 e → ∃ ds i, d = .list ds ∧ e = .int i ∧ P (.list (cutD ds none (some i)))) : EG K b a n m (tSl (rSlL K) ta tNoPart (tPart te)) σ H P := fun H1 x1 kn bg Q q =>
  h1 H1 x1 kn bg _ fun x d H2 x2 b2 hx p1 => h2 H2 (x1.trans x2) (x2.kn kn b2) b2 _ fun y e H3 x3 b3 hy p2 => by
    obtain ⟨ds, i, rfl, rfl, p⟩ := hi d e p1 p2
    have hx3 := hx.upB ha x3
    cases hx3 with
    | lst g1 g2 =>
      have kn3 := x3.kn (x2.kn kn b2) b3
      exact ⟨i, dq_int hy, _, _, rfl, ex_l hid_le g1, fun r hr => q _ _ _ ((x2.trans x3).trans (exb (Ex.new hr))) (b3.ex (Ex.new hr)) (.lst (.inl (.inl (hid_new (kn3.new hr)))) (DqAll.up (cut_dps g2 none (some i)) (Ex.new hr))) p⟩
/-- int(truth) -/
def rInt1 : List V → Hp → VK → Prop := fun xs H Q => (∃ i, xs = [.int i] ∧ Q (.int i) H) ∨ ∃ k, xs = [.bl k] ∧ Q (.int (if k then 1 else 0)) H
theorem call_intB {X : Cx} : CallR X (.type "int") rInt1 := call_int1
theorem ed_intB {c : Bool} (ha : ED K b ta σ H (.bool c)) : ED K b (tCB rInt1 (tCons ta tNil)) σ H (.int (if c then 1 else 0)) := fun H1 x1 Q q =>
  ha H1 x1 _ fun v H2 x2 hv => .inr ⟨c, by rw [dq_bl hv], q _ H2 x2 (.int _)⟩
/-! ### hiding one more -/
theorem hide_ex {D : Addr} (hD : H D = none) : Ex (hid b H) (hid (D :: b) H) := fun c o h => by
  obtain ⟨h1, h2⟩ := hid_some h
  have : c ∉ D :: b := fun z => by
    rcases List.mem_cons.mp z with rfl | z
    · rw [hD] at h2; cases h2
    · exact h1 z
  rw [hid_ne this]
  exact h2
theorem Dq.hide {D : Addr} {v : V} (h : Dq K b H v d) (hD : H D = none) : Dq K (D :: b) H v d := dp_ex (hide_ex hD) d v h
theorem show_ex {D : Addr} : Ex (hid (D :: b) H) (hid b H) := fun c o h => by
  obtain ⟨h1, h2⟩ := hid_some h
  rw [hid_ne fun z => h1 (List.mem_cons_of_mem _ z)]
  exact h2
theorem put_ex {D : Addr} {o : HO} : Ex (hid (D :: b) H) (hid (D :: b) (upd H D o)) := fun c u h => by
  obtain ⟨h1, h2⟩ := hid_some h
  rw [hid_ne h1, upd_ne fun z => h1 (by rw [z]; exact List.mem_cons_self)]
  exact h2
/-- [.. for i in range(n)], each item drawn -/
theorem eg_lcR {i0 c N : Nat} {R : Nat → PyData → Prop} (ha : a ∈ b) (hcount : ∀ H1, ExB a H H1 → Kn b H1 → ED K b ta σ H1 (.int (N : Nat))) (hN : N ≤ 1000)
    (he : ∀ (D : Addr) (i f : Nat) (H0 H1 : Hp), i < N → ExB a H H0 → H0 D = none → ExB a H0 H1 → EG K (D :: b) a (f + c) f te ((wipe σ [i0]).set i0 (some (.int (i : Nat)))) H1 (R i)) :
    EG K b a (m + N * c) m (tLc (iRng1 (tCons ta tNil)) (gName i0) tYes te [i0]) σ H (fun d => ∃ ds, d = .list ds ∧ ds.length = N ∧ ∀ i x, ds[i]? = some x → R i x) := fun H1 x1 kn bg Q q =>
  hcount H1 x1 kn H1 (Ex.refl H1) _ fun v H2 x2 hv => by
    have e := dq_int hv
    subst e
    have hsl : sizeLine = 16777216 := sizeLine_eq
    have kn2 := kn.up x2
    have bg2 := bg.ex x2
    refine ⟨(N : Nat), rfl, by omega, by omega, fun D hD => ?_⟩
    rw [show ((N : Nat) : Int).toNat = N from rfl]
    have hDa : D ≠ a := fun z => bg2.there (z ▸ hD)
    refine lc_range (Pv := fun i H3 => ExB a H2 H3 ∧ Kn (D :: b) H3 ∧ Bag a (m + (N - i) * c) H3 ∧ ∃ acc ds, H3 D = some (.lst acc) ∧ DqAll K (D :: b) H3 acc ds ∧ ds.length = i ∧ ∀ j x, ds[j]? = some x → R j x) ?_ ?_ ?_
    · refine ⟨exb (Ex.new hD), fun z hz => ?_, ?_, [], [], upd_same, .nil, rfl, fun j x h => by simp at h⟩
      · rcases List.mem_cons.mp hz with rfl | hz
        · rw [upd_same]; intro q; cases q
        · rw [upd_ne (fun z' : z = D => kn2.new hD (by rw [← z']; exact hz))]
          exact kn2 z hz
      · rw [Nat.sub_zero]
        exact bg2.ex (Ex.new hD)
    · intro i H3 hi ⟨x3, k3, b3, acc, ds, hd3, hacc, hlen, hR⟩
      refine ⟨wipe_set1, ?_⟩
      refine et_yes (H := H3) _ (Ex.refl _) _ fun H4 x4 => ?_
      rw [if_pos rfl]
      have eN : N - i = (N - (i + 1)) + 1 := by omega
      have bb : Bag a ((m + (N - (i + 1)) * c) + c) H4 := (b3.ex x4).le (by rw [eN, Nat.add_mul]; omega)
      rw [show (0 + (i : Int)) = ((i : Nat) : Int) from Int.zero_add _]
      refine he D i (m + (N - (i + 1)) * c) H2 H4 hi (x1.trans (exb x2)) hD (x3.trans (exb x4)) H4 (ExB.refl a H4) (k3.up x4) bb _ fun y d H5 x5 b5 hy r => ?_
      have hd5 : H5 D = some (.lst acc) := x5 _ _ hDa (x4 _ _ hd3)
      have hm : a ∈ D :: b := List.mem_cons_of_mem _ ha
      refine ⟨acc, hd5, ?_, ?_, ?_, ?_, acc ++ [y], ds ++ [d], upd_same, ?_, ?_, ?_⟩
      · rw [dps_len hacc]; omega
      · intro z o hz h
        by_cases e : z = D
        · subst e; rw [hD] at h; cases h
        · rw [upd_ne e]
          exact x5 _ _ hz (x4 _ _ (x3 _ _ hz h))
      · intro z hz
        by_cases e : z = D
        · subst e; rw [upd_same]; intro q; cases q
        · rw [upd_ne e]
          exact x5.kn (k3.up x4) b5 z hz
      · obtain ⟨g, x, h1, r'⟩ := b5
        exact ⟨g, x, by rw [upd_ne (Ne.symm hDa)]; exact h1, r'⟩
      · exact dps_ex put_ex _ _ (dps_app (DqAll.upB hm (DqAll.up hacc x4) x5) (.cons hy .nil))
      · rw [List.length_append, hlen]; rfl
      · intro j x hj
        by_cases hjl : j < ds.length
        · rw [List.getElem?_append_left hjl] at hj
          exact hR j x hj
        · rw [List.getElem?_append_right (by omega)] at hj
          have : j - ds.length = 0 := by
            by_cases hz : j - ds.length = 0
            · exact hz
            · rw [List.getElem?_eq_none (by rw [List.length_singleton]; omega)] at hj
              cases hj
          rw [this] at hj
          have ex : d = x := Option.some.inj hj
          have ej : j = i := by omega
          rw [ej, ← ex]
          exact r
    · intro H3 ⟨x3, k3, b3, acc, ds, hd3, hacc, hlen, hR⟩
      rw [Nat.sub_self, Nat.zero_mul, Nat.add_zero] at b3
      refine q _ (.list ds) H3 ((exb x2).trans x3) b3 (.lst (.inl (.inl ?_)) (dps_ex show_ex _ _ hacc)) ⟨ds, rfl, hlen, hR⟩
      rw [hid_ne (kn2.new hD)]
      exact hd3
end
end Wr

set_option Elab.async false
set_option linter.all false
set_option maxRecDepth 100000
set_option maxHeartbeats 4000000
namespace Wr
open PySem PySem.Spec PyProof.Rows L2 Evl
abbrev NWo : List Str := ["_law_bag_here", "_law_way", "_law_great"]
section
variable {K : PySem.W.Frag} {b : List Addr} {a : Addr} {n m k : Nat} {σ : L2.St} {H H' : Hp} {ta tb te : TE} {t : TA} {tt : TT} {ts t1 t2 : TS} {P P' : PyData → Prop} {d : PyData}
theorem eg_I {C : Int → Int → Prop} {g : Int → Int → Int} {P1 P2 : PyData → Prop} (ha : a ∈ b) (h1 : EG K b a n k ta σ H P1) (h2 : EG K b a k m tb σ H P2) (hi : ∀ d e, P1 d → P2 e → ∃ i j, d = .int i ∧ e = .int j ∧ C i j ∧ P (.int (g i j))) : EG K b a n m (tOp (rI C fun i j => .int (g i j)) ta tb) σ H P :=
  eg_op ha h1 h2 fun d e H1 x y Q p1 p2 _ _ hx hy q => by
    obtain ⟨i, j, rfl, rfl, c, p⟩ := hi d e p1 p2
    exact ⟨i, j, dq_int hx, dq_int hy, c, q _ _ H1 (Ex.refl H1) (.int _) p⟩
end
section
variable {P : Program} {w : World} {K : PySem.W.Frag} {mg : Str → Option Value} {base : Heap} {f g g2 : Addr} {fd gd gd2 : FuncData}
end
end Wr

set_option Elab.async false
set_option linter.all false
set_option maxRecDepth 100000
set_option maxHeartbeats 4000000
namespace Wr
open PySem PySem.Spec PyProof.Rows L2 Evl
/-! ### heads: how many values a call takes, by its name -/
abbrev Hds := List (Str × Nat)
def hdK (hs : Hds) : List (Key × V) := hs.map fun p => (Sum.inr p.1, V.int (p.2 : Nat))
structure HdC (hs : Hds) : Prop where
  l0 : hs ≠ []
  l6 : hs.length ≤ 6
  le : ∀ p ∈ hs, p.2 ≤ 3
  nd : (hs.map Prod.fst).Nodup
  nm : ∀ p ∈ hs, nameS p.1 = true ∧ PyData.strOk p.1 = true
def HdAt (H : Hp) (h : Addr) (hs : Hds) : Prop := H h = some (.dK (hdK hs))
theorem HdAt.ne {a h : Addr} {n : Nat} {H : Hp} {hs : Hds} (x : HdAt H h hs) (bg : Bag a n H) : h ≠ a := fun e => by
  obtain ⟨g, y, h1, _⟩ := bg
  unfold HdAt at x
  rw [e, h1] at x
  cases x
theorem HdAt.upB {a h : Addr} {H H' : Hp} {hs : Hds} (x : HdAt H h hs) (ne : h ≠ a) (e : ExB a H H') : HdAt H' h hs := e _ _ ne x
theorem HdAt.up {h : Addr} {H H' : Hp} {hs : Hds} (x : HdAt H h hs) (e : Ex H H') : HdAt H' h hs := e _ _ x
theorem hd_val {hs : Hds} (nd : (hs.map Prod.fst).Nodup) {p : Str × Nat} (hp : p ∈ hs) : valV (hdK hs) (Sum.inr p.1) = some (.int (p.2 : Nat)) := by
  unfold valV hdK
  induction hs with
  | nil => cases hp
  | cons x r ih =>
    rw [List.map_cons] at nd
    have nd' := List.nodup_cons.mp nd
    rw [List.map_cons]
    rcases List.mem_cons.mp hp with rfl | hp
    · rw [List.find?_cons_of_pos (by simp)]
      rfl
    · have : x.1 ≠ p.1 := fun e => nd'.1 (by rw [e]; exact List.mem_map.mpr ⟨p, hp, rfl⟩)
      rw [List.find?_cons_of_neg (by simpa using this)]
      exact ih nd'.2 hp
/-! ### what values are -/
def opsW : List Str := ["add", "less", "times", "over", "same", "below"]
def nxyzW : List Str := ["n", "x", "y", "z"]
inductive ValP (hs : Hds) : Nat → PyData → Prop
  | num {n : Nat} {d : PyData} : worthD d = true → ValP hs (n + 1) d
  | name {n : Nat} {x : Str} : x ∈ nxyzW → ValP hs (n + 1) (.tuple [.str "name", .str x])
  | op {n : Nat} {o : Str} {c d : PyData} : o ∈ opsW → ValP hs n c → ValP hs n d → ValP hs (n + 1) (.tuple [.str o, c, d])
  | call {n : Nat} {x : Str} {ds : List PyData} : (x, ds.length) ∈ hs → (∀ d ∈ ds, ValP hs n d) → ValP hs (n + 1) (.tuple [.str "call", .str x, .tuple ds])
/-- a value is drawn, at most n deep -/
def spV (K : PySem.W.Frag) (n : Nat) : Sp := fun vs H Q _ => 0 < n ∧ ∃ (b : List Addr) (a h : Addr) (hs : Hds), vs = [.ref a, .ref h, .int (n : Nat)] ∧ a ∈ b ∧ Kn b H ∧ Bag a 0 H ∧ HdAt H h hs ∧ HdC hs ∧ ∀ v d H', ExB a H H' → Bag a 0 H' → Dq K b H' v d → ValP hs n d → Q v H'
abbrev NVa : List Str := ["_law_bag_here", "_law_heads", "_law_deep", "_law_way", "_law_op_here", "_law_name", "_law_k"]
abbrev PVa : List Str := ["_law_bag_here", "_law_heads", "_law_deep"]
def rLenDk : List V → Hp → VK → Prop := fun xs H Q => ∃ a kvs, xs = [V.ref a] ∧ H a = some (.dK kvs) ∧ Q (.int kvs.length) H
theorem call_lenDk {X : Cx} : CallR X (.builtin "len") rLenDk := call_lenD
def rSortDk : List V → Hp → VK → Prop := fun xs H Q => ∃ (a : Addr) (kvs : List (Key × V)) (ks : List Str), xs = [.ref a] ∧ Rd H a (.dK kvs) ∧ kvs.map (·.1) = ks.map Sum.inr ∧ ks.length < 64 ∧ ∀ ys p, ys.Perm ks → sortedS ys = true → H p = none → Q (.ref p) (upd H p (.lst (ys.map V.str)))
theorem call_sortDk {X : Cx} (hc : X.calm = true) : CallR X (.builtin "sorted") rSortDk := call_sortedD hc
section
variable {K : PySem.W.Frag} {b : List Addr} {a h : Addr} {n m k : Nat} {σ : L2.St} {H H' : Hp} {ta tb te : TE} {t : TA} {tt : TT} {ts t1 t2 : TS} {P P' : PyData → Prop} {d : PyData} {hs : Hds}
theorem ed_lenDk {i : Nat} (hσ : σ[i]? = some (some (.ref h))) (hd : HdAt H h hs) : ED K b (tCB rLenDk (tCons (tVar i) tNil)) σ H (.int (hs.length : Nat)) := fun H1 x1 Q q =>
  ⟨.ref h, hσ, h, hdK hs, rfl, x1 _ _ hd, by
    have e : (hdK hs).length = hs.length := List.length_map ..
    rw [e]
    exact q _ H1 (Ex.refl H1) (.int _)⟩
theorem eg_sortDk {i : Nat} (hσ : σ[i]? = some (some (.ref h))) (hd : HdAt H h hs) (ne : h ≠ a) (C : HdC hs) : EG K b a n n (tCB rSortDk (tCons (tVar i) tNil)) σ H (fun d => ∃ ys : List Str, d = .list (ys.map .str) ∧ ys.Perm (hs.map Prod.fst)) := fun H1 x1 kn bg Q q => by
  have hd1 := hd.upB ne x1
  refine ⟨.ref h, hσ, h, hdK hs, hs.map Prod.fst, rfl, .inl hd1, ?_, ?_, fun ys p pm so hp => ?_⟩
  · unfold hdK
    rw [List.map_map, List.map_map]
    rfl
  · rw [List.length_map]
    have := C.l6
    omega
  · exact q _ (.list (ys.map .str)) _ (exb (Ex.new hp)) (bg.ex (Ex.new hp)) (.lst (.inl (.inl (hid_new (kn.new hp)))) (strs_dps ys)) ⟨ys, rfl, pm⟩
theorem ed_dget {i j : Nat} {p : Str × Nat} (hσ : σ[i]? = some (some (.ref h))) (hx : σ[j]? = some (some (.str p.1))) (hd : HdAt H h hs) (C : HdC hs) (hp : p ∈ hs) : ED K b (tDGet (tVar i) (tVar j)) σ H (.int (p.2 : Nat)) := fun H1 x1 Q q =>
  ⟨.ref h, hσ, .str p.1, hx, h, .int (p.2 : Nat), rfl, .inl ⟨hdK hs, Sum.inr p.1, .inl (x1 _ _ hd), rfl, (hd_val C.nd hp).symm⟩, q _ H1 (Ex.refl H1) (.int _)⟩
theorem eg_nxyz {E : XK} {i : Nat} (ha : a ∈ b) (hb : σ[i]? = some (some (.ref a))) : EG K b a n n (tOp rIxS (tC (.str "nxyz")) (tCall (spTake K) [] E (tCons (tVar i) (tCons (tC (.int 4)) tNil)))) σ H (fun d => ∃ x ∈ nxyzW, d = .str x) :=
  eg_op (k := n) (P1 := (· = .str "nxyz")) (P2 := IntB 4) ha (eg_pure (fun _ _ _ => ed_str) rfl) (eg_take ha hb (by decide) (by decide)) fun d e H1 x y Q p1 p2 _ _ hx hy q => by
    subst p1
    obtain ⟨r, rfl, r0, r1⟩ := p2
    rw [dq_str hx, dq_int hy]
    rcases (show r = 0 ∨ r = 1 ∨ r = 2 ∨ r = 3 by omega) with rfl | rfl | rfl | rfl
    · exact ⟨"nxyz", 0, 110, rfl, rfl, by decide +kernel, by decide +kernel, q _ (.str "n") H1 (Ex.refl H1) (.str _) ⟨"n", by decide +kernel, rfl⟩⟩
    · exact ⟨"nxyz", 1, 120, rfl, rfl, by decide +kernel, by decide +kernel, q _ (.str "x") H1 (Ex.refl H1) (.str _) ⟨"x", by decide +kernel, rfl⟩⟩
    · exact ⟨"nxyz", 2, 121, rfl, rfl, by decide +kernel, by decide +kernel, q _ (.str "y") H1 (Ex.refl H1) (.str _) ⟨"y", by decide +kernel, rfl⟩⟩
    · exact ⟨"nxyz", 3, 122, rfl, rfl, by decide +kernel, by decide +kernel, q _ (.str "z") H1 (Ex.refl H1) (.str _) ⟨"z", by decide +kernel, rfl⟩⟩
/-- a value drawn by a call -/
theorem eg_val {E : XK} {i j l : Nat} (hl : 0 < l) (ha : a ∈ b) (hb : σ[i]? = some (some (.ref a))) (hh : σ[j]? = some (some (.ref h))) (hd : HdAt H h hs) (ne : h ≠ a) (C : HdC hs) (he : ∀ H1, ED K b te σ H1 (.int (l : Nat))) :
    EG K b a n m (tCall (spV K l) [] E (tCons (tVar i) (tCons (tVar j) (tCons te tNil)))) σ H (ValP hs l) := fun H1 x1 kn bg Q q =>
  ⟨.ref a, hb, .ref h, hh, he H1 H1 (Ex.refl H1) _ fun v H2 x2 hv => by
    have e := dq_int hv
    subst e
    exact ⟨hl, b, a, h, hs, rfl, ha, kn.up x2, bg.ex x2, (hd.upB ne x1).up x2, C, fun v d H3 x3 b3 hv p => q v d H3 ((exb x2).trans x3) b3 hv p⟩⟩
end
section
variable {P : Program} {w : World} {K : PySem.W.Frag} {mg : Str → Option Value} {base : Heap} {f g g2 : Addr} {fd gd gd2 : FuncData}
end
end Wr

set_option Elab.async false
set_option linter.all false
set_option maxRecDepth 100000
set_option maxHeartbeats 4000000
namespace Wr
open PySem PySem.Spec PyProof.Rows L2 Evl
theorem ValP.up {hs : Hds} {n m : Nat} {d : PyData} (h : ValP hs n d) : n ≤ m → ValP hs m d := by
  induction h generalizing m with
  | num p =>
    intro hm
    obtain ⟨k, rfl⟩ : ∃ k, m = k + 1 := ⟨m - 1, by omega⟩
    exact .num p
  | name p =>
    intro hm
    obtain ⟨k, rfl⟩ : ∃ k, m = k + 1 := ⟨m - 1, by omega⟩
    exact .name p
  | op o _ _ i1 i2 =>
    intro hm
    obtain ⟨k, rfl⟩ : ∃ k, m = k + 1 := ⟨m - 1, by omega⟩
    exact .op o (i1 (by omega)) (i2 (by omega))
  | call p _ ih =>
    intro hm
    obtain ⟨k, rfl⟩ : ∃ k, m = k + 1 := ⟨m - 1, by omega⟩
    exact .call p fun d hd => ih d hd (by omega)
def oneW : List Str := ["say", "back", "throw"]
/-- sayings at most n deep, their values at most w -/
inductive SayP (hs : Hds) (w : Nat) : Nat → PyData → Prop
  | set {n : Nat} {x : Str} {v : PyData} : x ∈ nxyzW → ValP hs w v → SayP hs w (n + 1) (.tuple [.str "set", .str x, v])
  | one {n : Nat} {o : Str} {v : PyData} : o ∈ oneW → ValP hs w v → SayP hs w (n + 1) (.tuple [.str o, v])
  | ite {n : Nat} {v : PyData} {ss ts : List PyData} : ValP hs w v → ss.length ≤ 6 → (∀ s ∈ ss, SayP hs w n s) → ts.length ≤ 6 → (∀ s ∈ ts, SayP hs w n s) → SayP hs w (n + 1) (.tuple [.str "if", v, .tuple ss, .tuple ts])
  | whl {n : Nat} {v : PyData} {ss : List PyData} : ValP hs w v → ss.length ≤ 6 → (∀ s ∈ ss, SayP hs w n s) → SayP hs w (n + 1) (.tuple [.str "while", v, .tuple ss])
  | tr {n : Nat} {x : Str} {ss ts : List PyData} : x ∈ nxyzW → ss.length ≤ 6 → (∀ s ∈ ss, SayP hs w n s) → ts.length ≤ 6 → (∀ s ∈ ts, SayP hs w n s) → SayP hs w (n + 1) (.tuple [.str "try", .tuple ss, .str x, .tuple ts])
def SayQ (hs : Hds) (l n : Nat) (d : PyData) : Prop := SayP hs (max l 2) n d
def SaysQ (hs : Hds) (l n : Nat) (d : PyData) : Prop := ∃ ss, d = .tuple ss ∧ ss.length ≤ 6 ∧ ∀ s ∈ ss, SayP hs (max l 2) n s
/-- a saying, sayings are drawn -/
def spS (K : PySem.W.Frag) (Po : Hds → Nat → Nat → PyData → Prop) (n : Nat) : Sp := fun vs H Q _ => 0 < n ∧ ∃ (b : List Addr) (a h : Addr) (hs : Hds) (l : Nat), vs = [.ref a, .ref h, .int (n : Nat), .int (l : Nat)] ∧ 0 < l ∧ l ≤ 6 ∧ a ∈ b ∧ Kn b H ∧ Bag a 0 H ∧ HdAt H h hs ∧ HdC hs ∧
  ∀ v d H', ExB a H H' → Bag a 0 H' → Dq K b H' v d → Po hs l n d → Q v H'
abbrev PSa : List Str := ["_law_bag_here", "_law_heads", "_law_deep", "_law_wide"]
abbrev NSa : List Str := ["_law_bag_here", "_law_heads", "_law_deep", "_law_wide", "_law_way", "_law_some", "_law_name", "_law_inner"]
abbrev NSs : List Str := ["_law_bag_here", "_law_heads", "_law_deep", "_law_wide", "_law_many", "_law_k"]
section
variable {K : PySem.W.Frag} {b : List Addr} {a h : Addr} {n m k : Nat} {σ : L2.St} {H H' : Hp} {ta tb te : TE} {t : TA} {tt : TT} {ts t1 t2 : TS} {P P' : PyData → Prop} {d : PyData} {hs : Hds}
theorem eg_say {E : XK} {Po : Hds → Nat → Nat → PyData → Prop} {i j i3 c l : Nat} (hc : 0 < c) (hl : 0 < l) (hl6 : l ≤ 6) (ha : a ∈ b) (hb : σ[i]? = some (some (.ref a))) (hh : σ[j]? = some (some (.ref h))) (h3 : σ[i3]? = some (some (.int (l : Nat)))) (hd : HdAt H h hs) (ne : h ≠ a) (C : HdC hs) (he : ∀ H1, ED K b te σ H1 (.int (c : Nat))) :
    EG K b a n m (tCall (spS K Po c) [] E (tCons (tVar i) (tCons (tVar j) (tCons te (tCons (tVar i3) tNil))))) σ H (Po hs l c) := fun H1 x1 kn bg Q q =>
  ⟨.ref a, hb, .ref h, hh, he H1 H1 (Ex.refl H1) _ fun v H2 x2 hv => by
    have e := dq_int hv
    subst e
    exact ⟨.int (l : Nat), h3, hc, b, a, h, hs, l, rfl, hl, hl6, ha, kn.up x2, bg.ex x2, (hd.upB ne x1).up x2, C, fun v d H3 x3 b3 hv p => q v d H3 ((exb x2).trans x3) b3 hv p⟩⟩
theorem cut5 (ys : List PyData) : cutD ys none (some 5) = ys.take 5 := by
  unfold cutD
  rw [HT.sIx_none]
  have e2 : HT.sIx ys.length ys.length (some (5 : Int)) = min 5 ys.length := HT.sIx_nat ys.length ys.length 5
  rw [e2, List.drop_zero, Nat.sub_zero]
  by_cases h5 : 5 ≤ ys.length
  · rw [Nat.min_eq_left h5]
  · rw [Nat.min_eq_right (by omega), List.take_of_length_le (Nat.le_refl _), List.take_of_length_le (by omega)]
end
section
variable {P : Program} {w : World} {K : PySem.W.Frag} {mg : Str → Option Value} {base : Heap} {f f2 g g2 g3 : Addr} {fd fd2 gd gd2 gd3 : FuncData}
end
end Wr

set_option Elab.async false
set_option linter.all false
set_option maxRecDepth 100000
set_option maxHeartbeats 4000000
namespace Wr
open PySem PySem.Spec PyProof.Rows L2 Evl
/-! ### how deep and wide they are as data -/
theorem word_ok {x : Str} {ws : List Str} (h : x ∈ ws) (hw : (ws.all fun x => PyData.strOk x && decide (x.length ≤ 8)) = true) : PyData.strOk x = true ∧ x.length ≤ 8 := by
  have := List.all_eq_true.mp hw x h
  rw [Bool.and_eq_true] at this
  exact ⟨this.1, of_decide_eq_true this.2⟩
theorem nxyz_ok {x : Str} (h : x ∈ nxyzW) : PyData.strOk x = true ∧ x.length ≤ 8 := word_ok h (by decide +kernel)
theorem ops_ok {x : Str} (h : x ∈ opsW) : PyData.strOk x = true ∧ x.length ≤ 8 := word_ok h (by decide +kernel)
theorem one_ok {x : Str} (h : x ∈ oneW) : PyData.strOk x = true ∧ x.length ≤ 8 := word_ok h (by decide +kernel)
theorem okL_w {L n : Nat} {x : Str} (h : PyData.strOk x = true ∧ x.length ≤ 8) : okL L n (.str x) = true := okL_str h.1 (by omega)
theorem okL_c {L n : Nat} {x : Str} (h : (PyData.strOk x && decide (x.length ≤ 8)) = true) : okL L n (.str x) = true := by
  rw [Bool.and_eq_true] at h
  exact okL_w ⟨h.1, of_decide_eq_true h.2⟩
theorem mem3 {P : PyData → Prop} {c d e : PyData} (h1 : P c) (h2 : P d) (h3 : P e) : ∀ x ∈ [c, d, e], P x := fun x hx => by
  rcases List.mem_cons.mp hx with rfl | hx
  · exact h1
  rcases List.mem_cons.mp hx with rfl | hx
  · exact h2
  rw [List.mem_singleton.mp hx]
  exact h3
theorem mem2 {P : PyData → Prop} {c d : PyData} (h1 : P c) (h2 : P d) : ∀ x ∈ [c, d], P x := fun x hx => by
  rcases List.mem_cons.mp hx with rfl | hx
  · exact h1
  rw [List.mem_singleton.mp hx]
  exact h2
theorem mem4 {P : PyData → Prop} {c d e f : PyData} (h1 : P c) (h2 : P d) (h3 : P e) (h4 : P f) : ∀ x ∈ [c, d, e, f], P x := fun x hx => by
  rcases List.mem_cons.mp hx with rfl | hx
  · exact h1
  exact mem3 h2 h3 h4 x hx
theorem ValP.ok {hs : Hds} (C : HdC hs) {n : Nat} {d : PyData} (h : ValP hs n d) : okL 6 (2 * n) d = true := by
  induction h with
  | @num n d p =>
    unfold worthD at p
    split at p
    · rename_i i
      rw [Bool.and_eq_true] at p
      have h1 := of_decide_eq_true p.1
      have h2 := of_decide_eq_true p.2
      exact okL_int (Nat.lt_of_le_of_lt (show i.natAbs ≤ 1000000000000 by omega) (by decide))
    · cases p
  | @name n x p => exact okL_tup (by show 2 ≤ 6; decide) (mem2 (okL_c (by decide +kernel)) (okL_w (nxyz_ok p)))
  | @op n o c d p _ _ i1 i2 => exact okL_tup (n := 2 * n + 1) (by show 3 ≤ 6; decide) (mem3 (okL_w (ops_ok p)) (okL_up (Nat.le_refl _) _ _ _ (by omega) i1) (okL_up (Nat.le_refl _) _ _ _ (by omega) i2))
  | @call n x ds p _ ih =>
    refine okL_tup (n := 2 * n + 1) (by show 3 ≤ 6; decide) (mem3 (okL_c (by decide +kernel)) (okL_w ⟨(C.nm _ p).2, name_len (C.nm _ p).1⟩) (okL_tup ?_ ih))
    have := C.le _ p
    show ds.length ≤ 6
    have h' : ds.length ≤ 3 := this
    omega
theorem SayP.ok {hs : Hds} (C : HdC hs) {w n : Nat} {d : PyData} (h : SayP hs w n d) : okL 6 (2 * w + 2 * n) d = true := by
  have v : ∀ {d : PyData} {m : Nat}, ValP hs w d → okL 6 (2 * w + m) d = true := fun {d m} p => okL_up (Nat.le_refl _) _ _ _ (by omega) (p.ok C)
  induction h with
  | @set n x d p q => exact okL_tup (n := 2 * w + (2 * n + 1)) (by show 3 ≤ 6; decide) (mem3 (okL_c (by decide +kernel)) (okL_w (nxyz_ok p)) (v q))
  | @one n o d p q => exact okL_tup (n := 2 * w + (2 * n + 1)) (by show 2 ≤ 6; decide) (mem2 (okL_w (one_ok p)) (v q))
  | @ite n d ss ts q l1 _ l2 _ i1 i2 => exact okL_tup (n := 2 * w + (2 * n + 1)) (by show 4 ≤ 6; decide) (mem4 (okL_c (by decide +kernel)) (v q) (okL_tup (n := 2 * w + 2 * n) l1 i1) (okL_tup (n := 2 * w + 2 * n) l2 i2))
  | @whl n d ss q l1 _ i1 => exact okL_tup (n := 2 * w + (2 * n + 1)) (by show 3 ≤ 6; decide) (mem3 (okL_c (by decide +kernel)) (v q) (okL_tup (n := 2 * w + 2 * n) l1 i1))
  | @tr n x ss ts p l1 _ l2 _ i1 i2 => exact okL_tup (n := 2 * w + (2 * n + 1)) (by show 4 ≤ 6; decide) (mem4 (okL_c (by decide +kernel)) (okL_tup (n := 2 * w + 2 * n) l1 i1) (okL_w (nxyz_ok p)) (okL_tup (n := 2 * w + 2 * n) l2 i2))
/-! ### trees -/
def treeNames : List Str := ["main", "b", "part", "dd", "eeeeeeee", "f"]
def dwT : List (Nat × Nat) := [(2, 3), (3, 2), (2, 2), (1, 4), (4, 1), (2, 3)]
def argW : List Str := ["n", "x", "y"]
def argN (k : Nat) : List PyData := (argW.take k).map .str
def TupP (hs : Hds) (p : Str × Nat) (d : PyData) : Prop := ∃ (ss : List PyData) (dw : Nat × Nat), dw ∈ dwT ∧ d = .tuple [.str p.1, .tuple (argN p.2), .tuple ss] ∧ ss ≠ [] ∧ ss.length ≤ 6 ∧ ∀ s ∈ ss, SayP hs (max dw.2 2) dw.1 s
def TreeP (d : PyData) : Prop := ∃ hs : Hds, HdC hs ∧ (∀ p ∈ hs, p.1 ∈ treeNames) ∧ ∃ ds, d = .tuple ds ∧ ds.length = hs.length ∧ ∀ (i : Nat) x p, ds[i]? = some x → hs[i]? = some p → TupP hs p x
abbrev NTr : List Str := ["_law_bag_here", "_law_many", "_law_names", "_law_heads", "_law_name", "_law_found", "_law_deep", "_law_wide", "_law_sayings_here"]
theorem cutN (ys : List PyData) (k : Nat) : cutD ys none (some ((k : Nat) : Int)) = ys.take k := by
  unfold cutD
  rw [HT.sIx_none]
  have e2 : HT.sIx ys.length ys.length (some ((k : Nat) : Int)) = min k ys.length := HT.sIx_nat ys.length ys.length k
  rw [e2, List.drop_zero, Nat.sub_zero]
  by_cases h5 : k ≤ ys.length
  · rw [Nat.min_eq_left h5]
  · rw [Nat.min_eq_right (by omega), List.take_of_length_le (Nat.le_refl _), List.take_of_length_le (by omega)]
theorem cutNV (ys : List V) (k : Nat) : cutV ys none (some ((k : Nat) : Int)) = ys.take k := by
  unfold cutV
  rw [HT.sIx_none]
  have e2 : HT.sIx ys.length ys.length (some ((k : Nat) : Int)) = min k ys.length := HT.sIx_nat ys.length ys.length k
  rw [e2, List.drop_zero, Nat.sub_zero]
  by_cases h5 : k ≤ ys.length
  · rw [Nat.min_eq_left h5]
  · rw [Nat.min_eq_right (by omega), List.take_of_length_le (Nat.le_refl _), List.take_of_length_le (by omega)]
theorem hd_put {hs : Hds} {x : Str} {k : Nat} (h : x ∉ hs.map Prod.fst) : putK (hdK hs) (Sum.inr x) (.int (k : Nat)) = hdK (hs ++ [(x, k)]) := by
  have : valV (hdK hs) (Sum.inr x) = none := by
    unfold valV hdK
    rw [Option.map_eq_none_iff, List.find?_eq_none]
    intro p hp
    obtain ⟨y, hy, rfl⟩ := List.mem_map.mp hp
    have : y.1 ≠ x := fun e => h (by rw [← e]; exact List.mem_map.mpr ⟨y, hy, rfl⟩)
    simpa using this
  rw [putK_new _ this]
  unfold hdK
  rw [List.map_append]
  rfl
/-- one promise of many -/
theorem FnOk.ex {P : Program} {w : World} {K : PySem.W.Frag} {mg : Str → Option Value} {base : Heap} {L N : Nat} {f : Addr} {fd : FuncData} {ps : List Str} {sp : Nat → Sp} (h : ∀ n, n ≤ N → FnOk P w K mg base CX0 L f fd ps (sp n)) : FnOk P w K mg base CX0 L f fd ps (fun vs H Q E => ∃ n, n ≤ N ∧ sp n vs H Q E) :=
  ⟨fun vs H Q E ⟨n, hn, z⟩ => (h n hn).len vs H Q E z, fun A outer s H args us vs Q E hr e0 hb rv ⟨n, hn, z⟩ => (h n hn).run A outer s H args us vs Q E hr e0 hb rv z⟩
abbrev spSx (K : PySem.W.Frag) (Po : Hds → Nat → Nat → PyData → Prop) : Sp := fun vs H Q E => ∃ n, n ≤ 4 ∧ spS K Po n vs H Q E
section
variable {K : PySem.W.Frag} {b : List Addr} {a h : Addr} {n m k : Nat} {σ : L2.St} {H H' : Hp} {ta tb te : TE} {t : TA} {tt : TT} {ts t1 t2 : TS} {P P' : PyData → Prop} {d : PyData} {hs : Hds} {D : Ends}
theorem eg_sayX {E : XK} {Po : Hds → Nat → Nat → PyData → Prop} {i j i2 i3 c l : Nat} (hc : 0 < c) (hc4 : c ≤ 4) (hl : 0 < l) (hl6 : l ≤ 6) (ha : a ∈ b) (hb : σ[i]? = some (some (.ref a))) (hh : σ[j]? = some (some (.ref h))) (h2 : σ[i2]? = some (some (.int (c : Nat)))) (h3 : σ[i3]? = some (some (.int (l : Nat)))) (hd : HdAt H h hs) (ne : h ≠ a) (C : HdC hs) :
    EG K b a n m (tCall (spSx K Po) [] E (tCons (tVar i) (tCons (tVar j) (tCons (tVar i2) (tCons (tVar i3) tNil))))) σ H (Po hs l c) := fun H1 x1 kn bg Q q =>
  ⟨.ref a, hb, .ref h, hh, .int (c : Nat), h2, .int (l : Nat), h3, c, hc4, hc, b, a, h, hs, l, rfl, hl, hl6, ha, kn, bg, hd.upB ne x1, C, fun v d H3 x3 b3 hv p => q v d H3 x3 b3 hv p⟩
theorem g_slL {i j : Nat} {xs : List Str} (hd : EA K b t σ H (xs.map .str)) (hl : xs.length ≤ 1000) (he : ∀ H1, ED K b te σ H1 (.int (j : Nat))) (k : ∀ pn H', H pn = none → Ex H H' → H' pn = some (.lst ((xs.take j).map V.str)) → ts D (σ.set i (some (.ref pn))) H') : tSeq (tAsg (tSl (rSlL K) (tLst t) tNoPart (tPart te)) (gName i)) ts D σ H :=
  hd H (Ex.refl H) _ fun vs H1 x1 hv => ⟨by
    rw [dps_len hv, List.length_map, sizeLine_eq]
    omega, fun p hp => he _ _ (Ex.refl _) _ fun v H2 x2 hj => ⟨(j : Nat), dq_int hj, p, vs, rfl, .inl (.inl (x2 _ _ upd_same)), fun pn hpn => by
      have ev := dps_strs hv
      subst ev
      rw [cutNV, ← List.map_take]
      refine k pn _ ?_ ((x1.trans (Ex.new hp)).trans (x2.trans (Ex.new hpn))) upd_same
      cases z : H pn with
      | none => rfl
      | some o => rw [x2 _ _ (Ex.new hp _ _ (x1 _ _ z))] at hpn; cases hpn⟩⟩
theorem g_setG {i : Nat} {P1 : PyData → Prop} (h : EG K b a n k te σ H P1) (kn : Kn b H) (bg : Bag a n H) (kk : ∀ v d H', ExB a H H' → Bag a k H' → Kn b H' → Dq K b H' v d → P1 d → ts D (σ.set i (some v)) H') : tSeq (tAsg te (gName i)) ts D σ H :=
  h H (ExB.refl a H) kn bg _ fun v d H' x bg' hv p => kk v d H' x bg' (x.kn kn bg') hv p
theorem g_lst {i : Nat} {ds : List PyData} (kn : Kn b H) (hd : EA K b t σ H ds) (hl : ds.length ≤ sizeLine) (k : ∀ p vs H', H p = none → Ex H H' → H' p = some (.lst vs) → DqAll K b H' vs ds → ts D (σ.set i (some (.ref p))) H') : tSeq (tAsg (tLst t) (gName i)) ts D σ H :=
  hd H (Ex.refl H) _ fun vs H1 x1 hv => ⟨by rw [dps_len hv]; exact hl, fun p hp => k p vs _ (by
    cases q : H p with
    | none => rfl
    | some o => rw [x1 _ _ q] at hp; cases hp) (x1.trans (Ex.new hp)) upd_same (DqAll.up hv (Ex.new hp))⟩
theorem g_app {j : Nat} {F : Addr} {vs : List V} (hσ : σ[j]? = some (some (.ref F))) (hF : H F = some (.lst vs)) (hl : vs.length < 10000000) (he : ED K b te σ H d) (kk : ∀ y H', Ex H H' → Dq K b H' y d → D.nx σ (upd H' F (.lst (vs ++ [y])))) : tDrop (tBM K "list" rAppend (tVar j) (tCons te tNil)) D σ H :=
  ⟨.ref F, hσ, .inl ⟨rfl, _, .inl (.inl hF)⟩, he H (Ex.refl H) _ fun y H' x hy => ⟨F, vs, y, rfl, rfl, x _ _ hF, by rw [sizeLine_eq]; omega, kk y H' x hy⟩⟩
theorem g_dnew {i : Nat} (k : ∀ p, H p = none → ts D (σ.set i (some (.ref p))) (upd H p (.dK []))) : tSeq (tAsg tDNewK (gName i)) ts D σ H := k
end
theorem tn_ok {x : Str} (h : x ∈ treeNames) : nameS x = true ∧ PyData.strOk x = true := by
  have q : (treeNames.all fun x => nameS x && PyData.strOk x) = true := by decide +kernel
  have := List.all_eq_true.mp q x h
  rw [Bool.and_eq_true] at this
  exact this
theorem tn_nd : treeNames.Nodup := by decide +kernel
theorem tup_nil (ss : List PyData) : PyData.eqv (.tuple ss) (.tuple []) = decide (ss = []) := by
  cases ss with
  | nil => simp [PyData.eqv, PyData.eqvAll]
  | cons x r => simp [PyData.eqv, PyData.eqvAll]
section
variable {P : Program} {w : World} {K : PySem.W.Frag} {mg : Str → Option Value} {base : Heap} {f f2 f3 g g2 g3 : Addr} {fd fd2 fd3 gd gd2 gd3 : FuncData}
end
end Wr

set_option Elab.async false
set_option linter.all false
set_option maxRecDepth 100000
set_option maxHeartbeats 4000000
namespace Wr
open PySem PySem.Spec PyProof.Rows L2 Evl
structure Blt2 (mg : Str → Option Value) : Prop where
  abs : mg "abs" = none
  max : mg "max" = none
  min : mg "min" = none
  repr : mg "repr" = none
abbrev s_bag : Stmt := topS 19
abbrev NB : List Str := ["_law_script", "_law_at", "_law_cell", "_law_mix", "_law_k"]
theorem sc_bag : FnScope NB ["_law_script", "_law_at"] (defScope s_bag) := ⟨rfl, rfl, rfl, by decide +kernel, rfl, by decide +kernel, by decide +kernel⟩
/-- a new bag, out of the script and a place -/
def spBag (K : PySem.W.Frag) : Sp := fun vs H Q _ => ∃ (b : List Addr) (ns : List Int) (k : Int), Kn b H ∧ DqAll K b H vs [.list (ns.map PyData.int), .int k] ∧ 0 ≤ k ∧ k < 100 ∧ ns.length ≤ 1000 ∧ ∀ p H', H p = none → Ex H H' → Bag p 0 H' → Q (.ref p) H'
def rAbs : List V → Hp → VK → Prop := fun xs H Q => ∃ i, xs = [.int i] ∧ Q (.int (if i < 0 then -i else i)) H
theorem call_absB {X : Cx} : CallR X (.builtin "abs") rAbs := call_abs
def rMax2 : List V → Hp → VK → Prop := fun xs H Q => ∃ i j, xs = [.int i, .int j] ∧ Q (.int (if j > i then j else i)) H
def rMin2 : List V → Hp → VK → Prop := fun xs H Q => ∃ i j, xs = [.int i, .int j] ∧ Q (.int (if j < i then j else i)) H
theorem cr_max2 {X : Cx} (hc : X.calm = true) : CallR X (.builtin "max") rMax2 := call_max2 hc
theorem cr_min2 {X : Cx} (hc : X.calm = true) : CallR X (.builtin "min") rMin2 := call_min2 hc
section
variable {K : PySem.W.Frag} {b : List Addr} {σ : L2.St} {H H' : Hp} {ta tb te : TE} {t : TA} {ds es : List PyData} {D : Ends} {ts : TS}
theorem ed_abs {i : Int} (ha : ED K b ta σ H (.int i)) : ED K b (tCB rAbs (tCons ta tNil)) σ H (.int (if i < 0 then -i else i)) := fun H1 x1 Q q =>
  ha H1 x1 _ fun v H2 x2 hv => ⟨i, by rw [dq_int hv], q _ H2 x2 (.int _)⟩
theorem ed_max2 {i j : Int} (ha : ED K b ta σ H (.int i)) (hb : ED K b tb σ H (.int j)) : ED K b (tCB rMax2 (tCons ta (tCons tb tNil))) σ H (.int (if j > i then j else i)) := fun H1 x1 Q q =>
  ha H1 x1 _ fun v H2 x2 hv => hb H2 (x1.trans x2) _ fun u H3 x3 hu => ⟨i, j, by rw [dq_int hv, dq_int hu], q _ H3 (x2.trans x3) (.int _)⟩
theorem ed_min2 {i j : Int} (ha : ED K b ta σ H (.int i)) (hb : ED K b tb σ H (.int j)) : ED K b (tCB rMin2 (tCons ta (tCons tb tNil))) σ H (.int (if j < i then j else i)) := fun H1 x1 Q q =>
  ha H1 x1 _ fun v H2 x2 hv => hb H2 (x1.trans x2) _ fun u H3 x3 hu => ⟨i, j, by rw [dq_int hv, dq_int hu], q _ H3 (x2.trans x3) (.int _)⟩
theorem g_forR {D : Ends} {ts tbd : TS} {g : TG} {N : Int} (Pv : Nat → L2.St → Hp → Prop) (h : ED K b ta σ H (.int N)) (n0 : -(2 ^ 62) ≤ N) (n1 : N < 2 ^ 62) (h0 : ∀ H1, Ex H H1 → Pv 0 σ H1)
    (hs : ∀ i σ H, i < N.toNat → Pv i σ H → g (.int (0 + i)) σ H fun σ2 H2 => tbd { D with nx := Pv (i + 1), ct := Pv (i + 1), bk := ts D } σ2 H2) (hd : ∀ σ H, Pv N.toNat σ H → ts D σ H) : tSeq (tFor (iRng1 (tCons ta tNil)) g tbd) ts D σ H :=
  h H (Ex.refl H) _ fun v H1 x1 hv => by
    have e := dq_int hv
    subst e
    exact ⟨N, rfl, n0, n1, for_range Pv (h0 H1 x1) hs hd⟩
/-- if ..: x = .., else as it was -/
theorem g_ifSet {tt : TT} {i : Nat} {c : Bool} {d : PyData} {old : V} (hc : EvT tt σ H c) (h1 : c = true → ∀ H1, Ex H H1 → ED K b te σ H1 d) (hσ : σ.set i (some old) = σ) (k : ∀ v H', Ex H H' → (c = true → Dq K b H' v d) → (c = false → v = old) → ts D (σ.set i (some v)) H') : tSeq (tIfS tt (tAsg te (gName i)) tNext) ts D σ H :=
  hc H (Ex.refl H) _ fun H1 x1 => by
    cases c with
    | true =>
      rw [if_pos rfl]
      exact h1 rfl H1 x1 H1 (Ex.refl H1) _ fun v H2 x2 hv => k v H2 (x1.trans x2) (fun _ => hv) fun e => nomatch e
    | false =>
      rw [if_neg Bool.false_ne_true]
      have := k old H1 x1 (fun e => nomatch e) fun _ => rfl
      rw [hσ] at this
      exact this
theorem g_setN {i : Nat} {d : PyData} (h : ED K b te σ H d) (k : ∀ v H', Ex H H' → Dq K b H' v d → D.nx (σ.set i (some v)) H') : tAsg te (gName i) D σ H := h H (Ex.refl H) _ fun v H' x hv => k v H' x hv
end
section
variable {P : Program} {w : World} {K : PySem.W.Frag} {mg : Str → Option Value} {base : Heap} {f g g2 : Addr} {fd gd gd2 : FuncData}
theorem ok_bag (D : Def K mg "_law_bag" s_bag ["_law_script", "_law_at"] f fd) (B : Blt mg) (B2 : Blt2 mg) : FnOk P w K mg base CX0 1 f fd ["_law_script", "_law_at"] (spBag K) := by
  refine D.F.ok sc_bag (fun vs H Q E ⟨b, ns, k, _, hd, _⟩ => by rw [dps_len hd]; rfl) (fun cdv A outer s H vs Q E hr h => ?_)
  obtain ⟨b, ns, k, kn, hd, k0, k1, hl, q⟩ := h
  obtain ⟨v, v2, d, d2, rfl, ed, h1, h2⟩ := two_of hd rfl
  cases ed
  have e2 := dq_int h2
  subst e2
  refine ⟨_, pss_cons (ps_set (i := 2) sc_bag.nd rfl (Or.inl rfl) pe_int)
    (pss_cons (ps_if (pt_cmpR op_lt (pv 1) (pe_callB call_lenD1 rfl B.len bb_len (pa_cons (pv 0) pa_nil)) (nomark _)) (pss_one (ps_set (i := 2) sc_bag.nd rfl (Or.inl rfl) (pe_callB call_absB rfl B2.abs bb_abs (pa_cons (pe_ix ix_list (pv 0) (pv 1) (fun _ _ => rfl)) pa_nil)))) pss_nil)
    (pss_cons (ps_set (i := 3) sc_bag.nd rfl (Or.inl rfl) (pe_op op_mod (pe_op op_powW (pe_op op_add (pe_op op_add (pe_op op_mod (pv 2) pe_int) (pe_op op_mul pe_int (pv 1))) pe_int) pe_int) pe_int))
    (pss_cons (ps_for PassesOwn.never rfl (pi_range1 rfl B.range (pa_cons (pe_callB (cr_min2 rfl) rfl B2.min bb_min (pa_cons (pe_callB call_lenD1 rfl B.len bb_len (pa_cons (pv 0) pa_nil)) (pa_cons pe_int pa_nil))) pa_nil)) (pg_name (i := 4) sc_bag.nd rfl (Or.inl rfl))
      (pss_one (ps_set (i := 3) sc_bag.nd rfl (Or.inl rfl) (pe_op op_mod (pe_op op_add (pe_op op_add (pe_op op_mul (pv 3) pe_int) (pe_op op_mul (pe_op op_mod (pe_ix ix_list (pv 0) (pv 4) (fun _ _ => rfl)) pe_int) (pe_op op_add (pv 4) pe_int))) (pv 4)) pe_int))))
    (pss_cons (ps_if (pt_cmpR op_lt (pv 2) (pe_op op_pow pe_int pe_int) (nomark _)) (pss_one (ps_set (i := 2) sc_bag.nd rfl (Or.inl rfl) pe_int)) pss_nil)
    (pss_one (ps_ret (pe_lst (pa_cons (pv 2) (pa_cons (pv 3) pa_nil))))))))), ?_⟩
  have hsl : sizeLine = 16777216 := sizeLine_eq
  have hD : ∀ {H'}, Ex H H' → Dq K b H' v (.list (ns.map .int)) := fun {H'} x => Dq.up h1 x
  have ll : (lenD (.list (ns.map PyData.int)) : Nat) = ns.length := List.length_map ..
  have fin : ∀ (c m : Int) (y4 : Option V) (H1 : Hp), Ex H H1 → 0 ≤ c → 0 ≤ m → m < 2147483648 → tRet (tLst (tCons (tVar 2) (tCons (tVar 3) tNil))) { nx := fun _ H' => Q .non H', rt := Q } [some v, some (.int k), some (.int c), some (.int m), y4] H1 := fun c m y4 H1 x1 c0 m0 m1 => by
    refine ⟨.int c, rfl, .int m, rfl, by show 2 ≤ sizeLine; decide, fun p hp => q p _ ?_ (x1.trans (Ex.new hp)) ⟨c, m, upd_same, c0, m0, m1⟩⟩
    cases z : H p with
    | none => rfl
    | some o => rw [x1 _ _ z] at hp; cases hp
  have pw : ∀ {σ'} {H'}, ED K b (tOp (rI CPow fun i j => .int (i ^ j.toNat)) (tC (.int 10)) (tC (.int 18))) σ' H' (.int 1000000000000000000) := fun {_ _} => ed_I ed_int ed_int ⟨by decide, by decide, by decide⟩ fun _ => .int _
  refine g_set (ed_int (K := K) (b := b) (i := 0)) fun v0 H0 x0 hv0 => ?_
  have e0 := dq_int hv0
  subst e0
  have lt := et_t (ed_lt (K := K) (b := b) (ed_var (σ := [some v, some (.int k), some (.int 0), none, none]) (i := 1) (d := .int k) rfl (.int k)) (ed_len (ed_var (i := 0) rfl (hD x0)) (.inr (.inl rfl)) fun y e => by cases e))
  rw [ll] at lt
  refine g_ifSet (K := K) (b := b) (i := 2) (old := .int 0) (d := .int (if ns.getD k.toNat 0 < 0 then -(ns.getD k.toNat 0) else ns.getD k.toNat 0)) lt (fun hc H1 x1 => ed_abs (ed_ixL (ed_var (i := 0) rfl (hD (x0.trans x1))) (ed_var (i := 1) (d := .int k) rfl (.int k)) ?_)) rfl fun vc H1 x1 hyes hno => ?_
  · have hk := of_decide_eq_true hc
    have ek : k = ((k.toNat : Nat) : Int) := (Int.toNat_of_nonneg k0).symm
    rw [ek]
    refine atI_nat ?_
    rw [List.getElem?_map, List.getElem?_eq_getElem (by omega)]
    simp only [Int.toNat_natCast, List.getD_eq_getElem?_getD, List.getElem?_eq_getElem (show k.toNat < ns.length by omega), Option.getD_some, Option.map_some]
  obtain ⟨c, ec, c0⟩ : ∃ c : Int, vc = .int c ∧ 0 ≤ c := by
    cases hz : decide (k < ((ns.length : Nat) : Int)) with
    | true => exact ⟨_, dq_int (hyes hz), by split <;> omega⟩
    | false => exact ⟨0, hno hz, by decide⟩
  subst ec
  have xx1 := x0.trans x1
  have m0 := Int.emod_nonneg c (show (2147483629 : Int) ≠ 0 by decide)
  have m1 := Int.emod_lt_of_pos c (show (0 : Int) < 2147483629 by decide)
  refine g_set (ed_mod (K := K) (b := b) (ed_powW (ed_add (ed_add (ed_mod (ed_var (σ := [some v, some (.int k), some (.int c), none, none]) (i := 2) (d := .int c) rfl (.int c)) (ed_int (i := 2147483629)) (by decide)) (ed_mul (ed_int (i := 104729)) (ed_var (i := 1) (d := .int k) rfl (.int k)) (.inl (by decide)))) (ed_int (i := 17))) (ed_int (i := 5)) ⟨by decide, by decide, Nat.lt_of_lt_of_le (show (c % 2147483629 + 104729 * k + 17).natAbs < 2 ^ 40 by omega) (by decide)⟩) (ed_int (i := 2147483647)) (by decide)) fun vm H2 x2 hvm => ?_
  have em := dq_int hvm
  subst em
  have q0 := Int.emod_nonneg ((c % 2147483629 + 104729 * k + 17) ^ (5 : Int).toNat) (show (2147483647 : Int) ≠ 0 by decide)
  have q1 := Int.emod_lt_of_pos ((c % 2147483629 + 104729 * k + 17) ^ (5 : Int).toNat) (show (0 : Int) < 2147483647 by decide)
  generalize (c % 2147483629 + 104729 * k + 17) ^ (5 : Int).toNat % 2147483647 = mx at q0 q1
  have xx2 := xx1.trans x2
  have cnt := ed_min2 (K := K) (b := b) (ed_len (ed_var (σ := [some v, some (.int k), some (.int c), some (.int mx), none]) (i := 0) rfl (hD xx2)) (.inr (.inl rfl)) fun y e => by cases e) (ed_int (i := 60))
  rw [ll] at cnt
  have cb : 0 ≤ (if (60 : Int) < ((ns.length : Nat) : Int) then (60 : Int) else ((ns.length : Nat) : Int)) ∧ (if (60 : Int) < ((ns.length : Nat) : Int) then (60 : Int) else ((ns.length : Nat) : Int)) ≤ 60 ∧ (if (60 : Int) < ((ns.length : Nat) : Int) then (60 : Int) else ((ns.length : Nat) : Int)) ≤ ns.length := by
    split <;> omega
  generalize (if (60 : Int) < ((ns.length : Nat) : Int) then (60 : Int) else ((ns.length : Nat) : Int)) = N at cnt cb
  refine g_forR (Pv := fun i σ' H' => (∃ (m : Int) (y4 : Option V), σ' = [some v, some (.int k), some (.int c), some (.int m), y4] ∧ 0 ≤ m ∧ m < 2147483648) ∧ Ex H H') cnt (by omega) (by omega) (fun H3 x3 => ⟨⟨mx, none, rfl, q0, by omega⟩, xx2.trans x3⟩) ?_ ?_
  · intro i σ' H' hi ⟨⟨m, y4, eσ, h0, h1'⟩, xH⟩
    subst eσ
    have hi' : i < ns.length := by omega
    have at_ : atI (ns.map PyData.int) (0 + (i : Int)) = some (.int ns[i]) := by
      rw [show (0 + (i : Int)) = ((i : Nat) : Int) from Int.zero_add _]
      refine atI_nat ?_
      rw [List.getElem?_map, List.getElem?_eq_getElem hi']
      rfl
    refine g_setN (ed_mod (K := K) (b := b) (ed_add (ed_add (ed_mul (ed_var (σ := [some v, some (.int k), some (.int c), some (.int m), some (.int (0 + (i : Int)))]) (i := 3) (d := .int m) rfl (.int m)) (ed_int (i := 48271)) (.inr ⟨by decide, by decide⟩)) (ed_mul (ed_mod (ed_ixL (ed_var (i := 0) rfl (hD xH)) (ed_var (i := 4) (d := .int (0 + (i : Int))) rfl (.int _)) at_) (ed_int (i := 2147483587)) (by decide)) (ed_add (ed_var (i := 4) (d := .int (0 + (i : Int))) rfl (.int _)) (ed_int (i := 3))) (.inr ⟨by omega, by omega⟩))) (ed_var (i := 4) (d := .int (0 + (i : Int))) rfl (.int _))) (ed_int (i := 2147483629)) (by decide)) fun vm H3 x3 hvm => ?_
    have em := dq_int hvm
    subst em
    exact ⟨⟨_, _, rfl, Int.emod_nonneg _ (by decide), Int.lt_trans (Int.emod_lt_of_pos _ (by decide)) (by decide)⟩, xH.trans x3⟩
  · intro σ' H' ⟨⟨m, y4, eσ, h0, h1'⟩, xH⟩
    subst eσ
    refine g_ifSet (K := K) (b := b) (i := 2) (old := .int c) (d := .int 0) (et_t (ed_lt (K := K) (b := b) (ed_var (i := 2) (d := .int c) rfl (.int c)) pw)) (fun _ _ _ => ed_int) rfl fun vc H3 x3 hyes hno => ?_
    obtain ⟨c', ec, c0'⟩ : ∃ c' : Int, vc = .int c' ∧ 0 ≤ c' := by
      cases hz : decide (c < 1000000000000000000) with
      | true => exact ⟨_, dq_int (hyes hz), by decide⟩
      | false => exact ⟨c, hno hz, c0⟩
    subst ec
    exact fin c' m y4 H3 (xH.trans x3) c0' h0 h1'
end
end Wr

set_option Elab.async false
set_option linter.all false
set_option maxRecDepth 100000
set_option maxHeartbeats 4000000
namespace Wr
open PySem PySem.Spec PyProof.Rows L2 Evl
/-! ### how long data are when shown -/
theorem str_shown {x : Str} (h : PyData.strOk x = true) : (reprText x).length ≤ 10 * x.length + 2 := by
  refine StrLaws.reprText_len x fun c hc => ?_
  have h' : x.cps.all (· < 0x110000) = true := h
  obtain ⟨i, hi, e⟩ := List.mem_iff_getElem.mp hc
  have h2 := Array.all_eq_true.mp h' i (by simpa using hi)
  have e' : x.cps[i]'(by simpa using hi) = c := by simpa using e
  rw [e'] at h2
  have : (c : Nat) < 0x110000 := of_decide_eq_true h2
  have h3 : (0x110000 : Nat) < 16 ^ 8 := by decide
  omega
theorem all_shown {ds : List PyData} (h : ∀ d ∈ ds, d.shown.length ≤ szD d) : ((PyData.shownAll ds).map (·.length)).sum + 2 * (PyData.shownAll ds).length ≤ szAll ds := by
  induction ds with
  | nil => simp only [PyData.shownAll, szAll, List.map_nil, List.sum_nil, List.length_nil]; omega
  | cons d r ih =>
    have h1 := h d List.mem_cons_self
    have h2 := ih fun e he => h e (List.mem_cons_of_mem _ he)
    simp only [PyData.shownAll, szAll, List.map_cons, List.sum_cons, List.length_cons]
    omega
theorem shown_sz : ∀ (n : Nat) (d : PyData), okD n d = true → d.shown.length ≤ szD d
  | _, .none, _ => by simp only [PyData.shown, szD]; decide
  | _, .bool b, _ => by
    simp only [PyData.shown, szD]
    cases b <;> decide
  | n, .int i, h => by
    have h' : decide (i.natAbs < 10 ^ 45) = true := by cases n <;> exact h
    simp only [PyData.shown, szD]
    exact int_text_len_1921 (log_small (of_decide_eq_true h'))
  | n, .str x, h => by
    have h' : (PyData.strOk x && decide (x.length ≤ 1000)) = true := by cases n <;> exact h
    simp only [PyData.shown, szD]
    exact str_shown (Bool.and_eq_true_iff.mp h').1
  | 0, .list ds, h => by cases h
  | 0, .tuple ds, h => by cases h
  | 0, .dict _, h => by cases h
  | _ + 1, .dict _, h => by cases h
  | n + 1, .list ds, h => by
    have q := all_shown fun d hd => shown_sz n d (ok_itemsL h d hd)
    have q2 := listText_len_le (PyData.shownAll ds)
    simp only [PyData.shown, szD]
    omega
  | n + 1, .tuple ds, h => by
    have q := all_shown fun d hd => shown_sz n d (ok_items h d hd)
    have q2 := tupleText_len_le (PyData.shownAll ds)
    simp only [PyData.shown, szD]
    omega
/-! ### repr, where nothing is being shown -/
def rRepr (K : PySem.W.Frag) : List V → Hp → VK → Prop := fun xs H Q => ∃ x d, xs = [x] ∧ Dp K H x d ∧ okD 30 d = true ∧ szD d ≤ 16000000 ∧ Q (.str d.shown) H
theorem call_reprD {X : Cx} (hg : X.A.guards = some []) (hu : X.A.units + 64 < cLine) : CallR X (.builtin "repr") (rRepr X.K) := by
  intro pins s σ H xs us Q I r ⟨x, d, e, hd, ho, hz, q⟩
  subst e
  obtain ⟨u, rfl, rx⟩ := vals1 r
  obtain ⟨f1, f2, f3⟩ := ok_facts 30 d ho
  have hsl : sizeLine = 16777216 := sizeLine_eq
  have hsz : d.shown.length ≤ sizeLine := by
    have := shown_sz 30 d ho
    omega
  obtain ⟨as, rd⟩ := Dp.reads I d x u hd rx
  cases hd with
  | non =>
    cases rx
    simp only [PyData.shown] at q
    exact PySem.P.repr_of_none ⟨.str _, H, I.tok _, ⟨_, rfl⟩, q⟩
  | bl c =>
    cases rx
    simp only [PyData.shown] at q
    refine PySem.P.repr_of_bool ⟨.str _, H, I.tok _, ⟨_, rfl⟩, ?_⟩
    cases c <;> exact q
  | int i =>
    obtain ⟨t, rfl⟩ := rx
    simp only [PyData.shown] at q
    exact PySem.P.repr_of_int (by simpa [PyData.showable] using f3) ⟨.str _, H, I.tok _, ⟨_, rfl⟩, q⟩
  | str y =>
    obtain ⟨t, rfl⟩ := rx
    simp only [PyData.shown] at q hsz
    exact PySem.P.repr_of_str ⟨.str _, H, I.tok _, ⟨_, rfl⟩, q⟩ hsz
  | lst h1 h2 =>
    cases rx
    exact repr_of_reads' rd f3 (PyData.noDict_hsm (PyData.hasDict_of_canLay _ f1)) hg (by omega) (fun _ _ e => e) (fun h' t tk kp => ⟨.str _, H, I.kept (t' := tk) kp, ⟨_, rfl⟩, q⟩) hsz
  | tup h1 h2 =>
    cases rx
    exact repr_of_reads' rd f3 (PyData.noDict_hsm (PyData.hasDict_of_canLay _ f1)) hg (by omega) (fun _ _ e => e) (fun h' t tk kp => ⟨.str _, H, I.kept (t' := tk) kp, ⟨_, rfl⟩, q⟩) hsz
/-! ### defs that are called where nothing is being shown -/
structure FnG (P : Program) (w : World) (K : PySem.W.Frag) (mg : Str → Option Value) (base : Heap) (k : Nat) (f : Addr) (fd : FuncData) (ps : List Str) (sp : Sp) : Prop where
  len : ∀ vs H Q E, sp vs H Q E → vs.length = ps.length
  go : ∀ (A : Around) (outer : List Env) (s : Shared) (H : Hp) (args : Args) (us : List Value) (vs : List V) (Q : VK) (E : XK), A.guards = some [] → Room k A → Env0 P w K mg base A outer s H → BindsTo s fd args (ps.zip us) → Vals vs us → sp vs H Q E →
    codeAny (model P w) A (.call (.ref f) args) (CR CX0 outer P w H s Q E) s
theorem deeper_guards {A : Around} {env : Env} (h : A.guards = some []) : (A.deeper env).guards = some [] := by
  first
    | exact h
    | simpa [Around.deeper] using h
section
variable {X : Cx} {k : Nat} {f : Addr} {fd : FuncData} {ps : List Str} {sp : Sp} {x : Str} {st : Stmt} {p pos : Pos} {e : Expr} {es : List Expr} {t : TA}
theorem pe_cdG (D : Def X.K X.mg x st ps f fd) (G : FnG X.prog X.w X.K X.mg X.base k f fd ps sp) (hg : X.A.guards = some []) (hr : Room k X.A) (ha : PA X (e :: es) t) (hgl : Gl X x := by rfl) (hdb : (x == ("__debug__" : Str)) = false := by decide)
    (he : starEach (e :: es) X.env = (false, eval e X.env) :: starEach es X.env := by rfl) (hpl : (backTo pos (starEach es X.env)).any (·.1) = false := by rfl) : PE X (.Call (.Name x p) (e :: es) [] pos) (tCall sp [] E0 t) :=
  ⟨fun pins s σ H Q I h => wpAny_Call_Name_kw (ld_glob I hgl D.m (PySem.W.callWith_K (h₀ := X.base) I.ok.mod.kin D.F.kp (thn (ha.run pos pins s σ H _ I h) fun us s1 ⟨vs, H1, I1, r, q⟩ => ⟨I1.kIn, by
    have q : sp (vs ++ []) H1 Q E0 := q
    rw [List.append_nil] at q
    have hl : (us ++ []).length = ps.length := by rw [List.append_nil, ← r.length]; exact G.len _ _ _ _ q
    have hb := D.b s1 us I1.kIn hl
    rw [List.append_nil] at hb
    refine wpAny_call (codeAny_mono (G.go X.A X.stack s1 H1 ⟨us, []⟩ us vs Q E0 hg hr I1.env0 hb r q) fun res s' hq => ?_)
    rcases res with e' | fl
    · exact hq.elim
    · rcases fl with _ | _ | _ | u
      all_goals first | exact I1.after hq | exact False.elim hq⟩) he hpl) hdb)⟩
end
section
variable {P : Program} {w : World} {K : PySem.W.Frag} {mg : Str → Option Value} {base : Heap}
/-- a def by its body, called where nothing is being shown -/
theorem Def.okG {x : Str} {st : Stmt} {f : Addr} {fd : FuncData} {N ps : List Str} {k : Nat} {sp : Sp} (D : Def K mg x st ps f fd) (S : FnScope N ps (defScope st)) (len : ∀ vs H Q E, sp vs H Q E → vs.length = ps.length)
    (hbody : ∀ (cdv : Value) (A : Around) (outer : List Env) (s : Shared) (H : Hp) (vs : List V) (Q : VK) (E : XK), (A.deeper (envOfC x (defScope st) s.heap.objs.size f cdv)).guards = some [] → Room k (A.deeper (envOfC x (defScope st) s.heap.objs.size f cdv)) → sp vs H Q E →
      ∃ t, PSs (cxOf CX0 P w K mg base N x (defScope st) f cdv A outer s H E).nox (defBody st) t ∧ t { nx := fun _ H' => Q .non H', rt := Q } (start N vs) H) : FnG P w K mg base (k + 1) f fd ps sp := by
  obtain ⟨oc, od, kV, doc, pm, an, cdv, ct, osl, rfl, lk, hcd⟩ := D.F.ex
  refine ⟨len, fun A outer s H args us vs Q E hgu hr e0 hb rv hsp => ?_⟩
  have keep := fun b o e => (e0.bs b o e).1
  have inS := e0.mod.kin.keeps keep
  refine codeAny_call_function hr.depth (inS _ _ lk) rfl S.co S.gen rfl (PySem.W.codeRec_of inS hcd) (hb _ _ _ _ (wpAny_newFunctionEnv_cells S.kind (fun y hy => ?_) fun env he s1 ic => ?_))
  · rcases S.par y.1 (List.of_mem_zip hy).1 with z | z
    · exact Or.inl z
    · exact Or.inr ⟨z, PySem.W.cellsFrom_some _ _ _ (Or.inl z)⟩
  · subst he
    refine ⟨(e0.mod.nolimit.keeps keep).keeps ic.toInCall.keep, codeAny_func ?_⟩
    obtain ⟨t, ht, hq⟩ := hbody cdv A outer s H vs Q E (deeper_guards hgu) (hr.deeper _) hsp
    have I := inv_start (CX := CX0) (mg := mg) (E := E) S hr.hd e0 (len _ _ _ _ hsp) rv ic
    refine wpAny_mono (ht.nox.run [] s1 _ H _ I hq) (fun fl s' hs => ?_) fun _ _ hs => hs
    rcases fl with _ | _ | _ | u
    all_goals first
      | (obtain ⟨v, σ', H', J, r', q'⟩ := hs; exact ⟨v, H', J.os, J.bare, J.base, J.hok, r', q'⟩)
      | (obtain ⟨σ', H', J, q'⟩ := hs; exact ⟨V.non, H', J.os, J.bare, J.base, J.hok, rfl, q'⟩)
      | (obtain ⟨_, _, _, q'⟩ := hs; exact False.elim q')
end
def spLaw (K : PySem.W.Frag) : Sp := fun vs H Q _ => ∃ (a : Addr) (ns : List Int), vs = [.ref a] ∧ SqL K H a (ns.map V.int) ∧ ns.length ≤ 1000 ∧ ∀ H', Q (.bl true) H'
theorem hid_nil (H : Hp) : hid [] H = H := by
  funext a
  exact hid_ne (by intro z; cases z)
theorem ints_dps {K : PySem.W.Frag} {H : Hp} : ∀ ns : List Int, DdAll K H (ns.map V.int) (ns.map PyData.int)
  | [] => .nil
  | n :: ns => .cons (.int n) (ints_dps ns)
theorem ex_exb {p : Addr} {H H1 H2 : Hp} (hp : H p = none) (x : Ex H H1) (y : ExB p H1 H2) : Ex H H2 := fun c o h => y c o (fun z => by rw [z, hp] at h; cases h) (x c o h)
/-! ### the law called where nothing is being shown -/
abbrev lstO (vs : List Value) : Obj := { cls := .type "list", data := .seq vs.toArray }
section
variable {P : Program} {w : World} {K : PySem.W.Frag} {mg mb : Str → Option Value} {k : Nat} {fa a : Addr} {fd : FuncData} {x : Str} {sp : Sp} {s : Shared} {vs : List Value} {ns : List Int}
/-- what the call leaves -/
def Left (s : Shared) (r : Result) (s' : Shared) : Prop := r = .ok (.ret (.bool true)) ∧ OldK s.heap s'.heap ∧ s'.os = s.os ∧ AllBare s'.gens
theorem law_from {H : Hp} (KX : K.In s.heap) (hm : s.heap.Ns mainGlobals mg) (hb : s.heap.Ns builtinsNs mb) (hbb : ∀ x : Str, x ≠ "__name__" → mb x = bootBuiltins x) (hlim : s.heap.NoLimit) (hge : s.gens = #[]) (ha : s.heap.get? a = some (lstO vs)) (hr : Room k callerA)
    (F : ∀ base : Heap, K.In base → base.Ns mainGlobals mg → FnG P w K mg base k fa fd [x] sp) (hbind : ∀ (s : Shared) (u : Value), BindsTo s fd ⟨[u], []⟩ [(x, u)]) (hsp : sp [.ref a] H (fun v _ => v = .bl true) fun _ _ _ => False) (hok : HOk P w H s.heap)
    (hA : ∀ c, H c = none ∨ (c = a ∧ K.lookup c = none ∧ ∃ xs, H c = some (.frz (lstO vs) (.lst xs)))) : codeAny (model P w) callerA (.call (.ref fa) ⟨[.ref a], []⟩) (Left s) s := by
  have nsOf : ∀ {c : Addr} {m : Str → Option Value}, s.heap.Ns c m → (hidT s.heap H).Ns c m := fun {c m} ⟨o, es, ep, e, d, r⟩ => by
    refine ⟨o, es, ep, hidT_get e ?_, d, r⟩
    rcases hA c with z | ⟨rfl, _⟩
    · exact z
    · rw [ha] at e
      cases e
      cases d
  have inB : K.In (hidT s.heap H) := fun c o e => hidT_get (KX c o e) (by
    rcases hA c with z | ⟨_, z, _⟩
    · exact z
    · rw [z] at e; cases e)
  have hM : Mod K mg (hidT s.heap H) := ⟨inB, nsOf hm, ⟨mb, nsOf hb, hbb⟩, let ⟨mc, h1, h2⟩ := hlim; ⟨mc, nsOf h1, h2⟩⟩
  have env : Env0 P w K mg (hidT s.heap H) callerA [] s H := ⟨rfl, hM, fun _ _ e => of_hidT e, Nat.le_of_eq (hidT_size _ _), trivial, (fun _ z => nomatch z), hok, .of_eq hge⟩
  refine codeAny_mono ((F _ inB (nsOf hm)).go callerA [] s H ⟨[.ref a], []⟩ [.ref a] [.ref a] _ _ rfl hr env (hbind s (.ref a)) (.cons rfl .nil) hsp) fun r s' h => ?_
  rcases r with e | fl
  · exact h.elim
  rcases fl with _ | _ | _ | u
  all_goals try exact False.elim h
  obtain ⟨v, H', os, bare, un, hok', r', q⟩ := h
  have q : v = .bl true := q
  subst q
  obtain rfl : u = Value.bool true := r'
  refine ⟨rfl, OldK.of_keep fun c o e => ?_, os, bare⟩
  rcases hA c with z | ⟨rfl, _, xs, z⟩
  · exact un.keep c o e z (fun y => nomatch y) (by simp)
  · obtain ⟨g1, _⟩ := hok c _ z
    obtain ⟨g2, _⟩ := hok' c _ (un.frzs c _ _ z)
    rw [e] at g1
    cases g1
    exact g2
theorem law_goG (KX : K.In s.heap) (hm : s.heap.Ns mainGlobals mg) (hb : s.heap.Ns builtinsNs mb) (hbb : ∀ x : Str, x ≠ "__name__" → mb x = bootBuiltins x) (hlim : s.heap.NoLimit) (hge : s.gens = #[]) (ha : s.heap.get? a = some (lstO vs)) (hi : IntsAre vs ns) (hl : ns.length ≤ sizeLine) (hr : Room k callerA)
    (F : ∀ base : Heap, K.In base → base.Ns mainGlobals mg → FnG P w K mg base k fa fd [x] sp) (hbind : ∀ (s : Shared) (u : Value), BindsTo s fd ⟨[u], []⟩ [(x, u)]) (hsp : ∀ H : Hp, SqL K H a (ns.map V.int) → sp [.ref a] H (fun v _ => v = .bl true) fun _ _ _ => False) : codeAny (model P w) callerA (.call (.ref fa) ⟨[.ref a], []⟩) (Left s) s := by
  have rv := vals_ints hi
  have ln := hi.length
  cases hk : K.lookup a with
  | some o =>
    have e := KX a o hk
    rw [ha] at e
    cases e
    refine law_from (H := fun _ => none) KX hm hb hbb hlim hge ha hr F hbind (hsp _ (.inr ⟨_, vs.toArray, _, hk, rfl, rfl, rfl, ?_, by simpa using rv⟩)) (fun c u z => nomatch z) fun _ => .inl rfl
    rw [List.size_toArray, ln]
    exact hl
  | none =>
    have at_a : (fun c => if c = a then some (HO.frz (lstO vs) (.lst (ns.map V.int))) else none : Hp) a = some (.frz (lstO vs) (.lst (ns.map V.int))) := if_pos rfl
    refine law_from (H := fun c => if c = a then some (.frz (lstO vs) (.lst (ns.map V.int))) else none) KX hm hb hbb hlim hge ha hr F hbind (hsp _ (.inl (.inr ⟨_, at_a⟩))) (fun c u z => ?_) fun c => ?_
    · by_cases e : c = a
      · subst e
        rw [at_a] at z
        cases z
        exact ⟨ha, by rw [List.length_map]; exact hl, vs, _, rv, ha⟩
      · have z' := (if_neg e).symm.trans z
        cases z'
    · by_cases e : c = a
      · subst e
        exact .inr ⟨rfl, hk, _, at_a⟩
      · exact .inl (if_neg e)
end

/-- a def that may raise, where it raises nothing -/
theorem FnOk.calm {P : Program} {w : World} {K : PySem.W.Frag} {mg : Str → Option Value} {base : Heap} {k : Nat} {f : Addr} {fd : FuncData} {ps : List Str} {sp : Sp} (F : FnOk P w K mg base (L2.CX P w) k f fd ps sp) : FnOk P w K mg base CX0 k f fd ps (fun vs H Q _ => sp vs H Q fun _ _ _ => False) :=
  ⟨fun vs H Q E h => F.len vs H Q _ h, fun A outer s H args us vs Q E hr e0 hb rv hsp => codeAny_mono (F.run A outer s H args us vs Q _ hr e0 hb rv hsp) fun r s' h => by
    rcases r with e | fl
    · obtain ⟨_, _, _, _, _, _, _, _, _, _, _, _, z⟩ := h
      exact z.elim
    · rcases fl with _ | _ | _ | u
      all_goals exact h⟩
end Wr

set_option Elab.async false
set_option linter.all false
set_option maxRecDepth 100000
set_option maxHeartbeats 4000000
namespace Wr
open PySem
/-! ### an own class of refusals over any built-in one: tl is that one's own line -/
abbrev keTail : List Value := [.type "KeyError", .type "LookupError", .type "Exception", .type "BaseException", .type "object"]
abbrev ieTail : List Value := [.type "IndexError", .type "LookupError", .type "Exception", .type "BaseException", .type "object"]
/-- by whom it is made: newId, of the class Bn -/
structure TailOk (tl : List Value) (Bn newId : String) : Prop where
  facts : ∃ initId bmB, ExcBaseFacts Bn newId initId bmB
  b : tl.contains (.type Bn) = true
  noA : tl.contains (.type "AttributeError") = false
  noN : tl.contains (.type "NameError") = false
  obj : tl.contains (.type "object") = true
  pass : ∀ self, refuseLoop self "__setattr__" tl = pure ()
theorem ke_tail : TailOk keTail "LookupError" "LookupError.__new__" := ⟨⟨_, _, F.excBase_LookupError⟩, by decide +kernel, by decide +kernel, by decide +kernel, by decide +kernel, fun _ => by kernel_rfl⟩
theorem ie_tail : TailOk ieTail "IndexError" "IndexError.__new__" := ⟨⟨_, _, F.excBase_IndexError⟩, by decide +kernel, by decide +kernel, by decide +kernel, by decide +kernel, fun _ => by kernel_rfl⟩
theorem own_contains {C : Addr} {tl : List Value} {X : String} {c : Bool} (h : tl.contains (.type X) = c) : (Value.ref C :: tl).contains (.type X) = c := by
  rw [List.contains_cons, h]
  exact Bool.false_or c
section
variable {prog : Program} {w : World} {A : Around} {E : Value → Shared → Prop} {R : Result → Shared → Prop} {h : Heap} {g : Array GenState} {d : Drawn} {t : Nat} {os : OsState}
variable {nm q : Str} {C N : Addr} {bs tl : List Value} {hdct : Bool} {sn : List Str} {sub : List Value} {ab : Bool} {col : Option Bool} {dd : Option Addr} {k0 k1 k2 k3 k5 : Option Value} {Bn newId : String}
theorem mk_check {M : Model} {args : List Value} {Q : Unit → Shared → Prop} (T : TailOk tl Bn newId) (hC : h.get? C = some (excClassObj nm q C N bs tl hdct sn sub ab col dd k0 k1 k2 k3 k5 newId)) (hq : Q () ⟨h, g, d, t, os⟩) :
    wpAny M A (checkBuiltinCall newId ⟨.ref C :: args, []⟩) Q E ⟨h, g, d, t, os⟩ := by
  obtain ⟨initId, bmB, Fb⟩ := T.facts
  have has := own_contains (C := C) T.b
  have nostar := Fb.noStar
  simp only [Fb.newKind, Fb.newSplit, Fb.newRow, checkBuiltinCall]
  repeat (first
    | refine wpAny_loadPart_at hC ?_
    | (refine wpAny_isSubtype_exc hC ?_; rw [has])
    | refine wpAny_staticBase_exc hC ?_
    | refine wpAny_madeBy_exc hC ?_
    | simp only [bne_self_eq_false, Bool.false_eq_true, if_false]
    | wp_step)
  exact hq
theorem mk_new {args : List Value} (T : TailOk tl Bn newId) (hC : h.get? C = some (excClassObj nm q C N bs tl hdct sn sub ab col dd k0 k1 k2 k3 k5 newId)) (hl : args.length ≤ sizeLine)
    (hq : R (.ok (.ret (.ref (h.objs.size + 1)))) ⟨(h.push (W.kdv_tup args)).push (HandSPX.excO C h.objs.size), g, d, t, os⟩) : codeAny (model prog w) A (.builtin newId ⟨.ref C :: args, []⟩) R ⟨h, g, d, t, os⟩ := by
  obtain ⟨initId, bmB, Fb⟩ := T.facts
  have ends := Fb.ends
  have has := own_contains (C := C) T.b
  have nA := own_contains (C := C) T.noA
  have nN := own_contains (C := C) T.noN
  have hrest := hl
  refine codeAny_builtinAt Fb.entry ?_
  unfold Builtin.«BaseException.__new__»
  refine wpAt_bind ?_
  show wpAt _ _ _ (stack >>= _) _ _ _
  refine wpAt_bind (wpAt_stack fun _ _ => wpAt_of_wpAny ?_)
  wp_walk
  refine wpAt_of_wpAny ?_
  rw [Fb.owner]
  repeat (first
    | with_reducible refine wpAny_madeHere_exc Fb.canon hC ?_
    | with_reducible refine wpAny_loadPart_at hC ?_
    | (with_reducible refine wpAny_isSubtype_exc hC ?_; first | rw [has] | rw [nA] | rw [nN])
    | wp_step)
  show R _ _
  rw [Heap.size_push]
  exact hq
theorem mk_type {args : List Value} {fI : Addr} {Q : Fin → Shared → Prop} (T : TailOk tl Bn newId) (hC : h.get? C = some (excClassObj nm q C N bs tl hdct sn sub ab col dd k0 k1 k2 k3 k5 newId)) (hl : args.length ≤ sizeLine)
    (hi : W.Looks (model prog w) h (typeLookup (.ref C) "__init__") (some (.ref fI))) (hb : ∀ self, W.Looks (model prog w) h (bindSpecial (.ref fI) self) (.ref fI, [self]))
    (hq : codeAny (model prog w) A (.call (.ref fI) ⟨.ref (h.objs.size + 1) :: args, []⟩) (fun r s' => match r with
      | .ok (.ret v) => v = .none ∧ Q (.done (.ret (.ref (h.objs.size + 1)))) s'
      | .ok _ => False
      | .error e => E e s') ⟨(h.push (W.kdv_tup args)).push (HandSPX.excO C h.objs.size), g, d, t, os⟩) : wpAny (model prog w) A (Builtin.«type.__call__» ⟨.ref C :: args, []⟩) Q E ⟨h, g, d, t, os⟩ := by
  have quiet := let ⟨_, _, Fb⟩ := T.facts; Fb.quiet
  repeat (first
    | with_reducible refine wpAny_loadPart_at hC ?_
    | with_reducible refine wpAny_madeBy_exc hC ?_
    | wp_step)
  refine codeAny_call_builtin_code (Code.quiet_builtin _ quiet) (mk_check T hC (mk_new T hC hl ?_))
  show wpAny _ _ _ _ _ _
  have stay : ∀ c o, h.get? c = some o → ((h.push (W.kdv_tup args)).push (HandSPX.excO C h.objs.size)).get? c = some o := fun c o z => Heap.get?_push_of_some _ (Heap.get?_push_of_some _ z)
  have at1 : ((h.push (W.kdv_tup args)).push (HandSPX.excO C h.objs.size)).get? (h.objs.size + 1) = some (HandSPX.excO C h.objs.size) := by heap_get
  have C1 := stay _ _ hC
  have own : (Value.ref C :: tl).contains (.ref C) = true := by simp
  have i1 := hi.keeps stay
  have b1 := (hb (.ref (h.objs.size + 1))).keeps stay
  unfold isInstance
  repeat (first
    | with_reducible refine wpAny_loadPart_at at1 ?_
    | (with_reducible refine wpAny_isSubtype_exc C1 ?_; rw [own])
    | wp_step)
  show wpAny _ _ (typeLookup (.ref C) _) _ _ _
  refine i1.at (wpAny_holding (wpAny_bind (b1.at (wpAny_bind (wpAny_call (codeAny_mono hq fun r s' z => ?_))))))
  rcases r with e | (v | _ | _ | _) <;> first | exact z | exact z.elim | skip
  obtain ⟨rfl, y⟩ := z
  first
    | exact wpAny_pure (wpAny_pure y)
    | (wp_walk; exact y)
/-- C(..), C's __init__ a def -/
theorem mk_call {args : List Value} {fI : Addr} (T : TailOk tl Bn newId) (hC : h.get? C = some (excClassObj nm q C N bs tl hdct sn sub ab col dd k0 k1 k2 k3 k5 newId)) (hl : args.length ≤ sizeLine)
    (hi : W.Looks (model prog w) h (typeLookup (.ref C) "__init__") (some (.ref fI))) (hb : ∀ self, W.Looks (model prog w) h (bindSpecial (.ref fI) self) (.ref fI, [self]))
    (hq : codeAny (model prog w) (A.under (.builtin "type.__call__" ⟨.ref C :: args, []⟩)) (.call (.ref fI) ⟨.ref (h.objs.size + 1) :: args, []⟩) (W.InitBack (h.objs.size + 1) R) ⟨(h.push (W.kdv_tup args)).push (HandSPX.excO C h.objs.size), g, d, t, os⟩) :
    codeAny (model prog w) A (.call (.ref C) ⟨args, []⟩) R ⟨h, g, d, t, os⟩ := by
  have look := tc_lookup
  have bind := tc_bind (.ref C)
  have ty : (⟨h, g, d, t, os⟩ : Shared).TypeIs (.ref C) "type" := ⟨_, hC, rfl⟩
  refine codeAny_of_tree ?_
  show wpAny _ _ (callAny (.ref C) _) _ _ _
  repeat (any_goals (first
    | assumption
    | with_reducible refine wpAny_loadPart_at hC ?_
    | wp_step))
  refine ⟨rfl, codeAny_call_builtin_at (Code.quiet_builtin _ (by decide +kernel)) entry_typeCall (wpAny_check_type_call_sub hC (mk_type T hC hl hi hb (codeAny_mono hq fun r s' z => ?_)))⟩
  rcases r with e | (v | _ | _ | _) <;> exact z
end
/-- B.__init__(e, ..) of such an exception: its args are laid anew, nothing else -/
def InitOk (tl : List Value) (newId initId : String) : Prop :=
  ∀ (prog : Program) (w : World) (A : Around) (R : Result → Shared → Prop) (h : Heap) (g : Array GenState) (d : Drawn) (t : Nat) (os : OsState) (nm q : Str) (C N : Addr) (bs : List Value) (hdct : Bool) (sn : List Str) (sub : List Value) (ab : Bool) (col : Option Bool) (dd : Option Addr) (k0 k1 k2 k3 k5 : Option Value) (e t0 : Addr) (args : List Value),
    h.get? C = some (excClassObj nm q C N bs tl hdct sn sub ab col dd k0 k1 k2 k3 k5 newId) → h.get? e = some (HandSPX.excO C t0) → args.length ≤ sizeLine →
    (∀ h' t1, (∀ b o, b ≠ e → h.get? b = some o → h'.get? b = some o) → h'.get? e = some (HandSPX.excO C t1) → R (.ok (.ret .none)) ⟨h', g, d, t, os⟩) → codeAny (model prog w) A (.call (.builtin initId) ⟨.ref e :: args, []⟩) R ⟨h, g, d, t, os⟩
theorem ie_init : InitOk ieTail "IndexError.__new__" "IndexError.__init__" := fun _ _ _ _ _ _ _ _ _ _ _ _ _ _ _ _ _ _ _ _ _ _ _ _ _ _ _ _ hC he hl hq => HandSPX.init_base F.excBase_IndexError (fun _ => rfl) hC he hl hq
theorem ke_entry : entryFor table "KeyError.__init__" = some Builtin.«BaseException.__init__» := by
  refine entryFor_alias (id' := "BaseException.__init__") ?_ ?_ ?_ ?_
  · rw [fastTable_eq_tree]
    kernel_rfl
  · first | rfl | decide +kernel
  · decide +kernel
  · rw [fastTable_eq_tree]
    kernel_rfl
theorem ke_check {M : Model} {A : Around} {E : Value → Shared → Prop} {h : Heap} {g : Array GenState} {d : Drawn} {t : Nat} {os : OsState} {nm q : Str} {C N : Addr} {bs : List Value} {hdct : Bool} {sn : List Str} {sub : List Value} {ab : Bool} {col : Option Bool} {dd : Option Addr} {k0 k1 k2 k3 k5 : Option Value} {newId : String} {e : Addr} {oe : Obj} {args : List Value} {Q : Unit → Shared → Prop}
    (hC : h.get? C = some (excClassObj nm q C N bs keTail hdct sn sub ab col dd k0 k1 k2 k3 k5 newId)) (he : h.get? e = some oe) (hcls : oe.cls = .ref C) (hq : Q () ⟨h, g, d, t, os⟩) : wpAny M A (checkBuiltinCall "KeyError.__init__" ⟨.ref e :: args, []⟩) Q E ⟨h, g, d, t, os⟩ := by
  have has : (Value.ref C :: keTail).contains (.type "KeyError") = true := own_contains (by decide +kernel)
  have e1 : builtinKind "KeyError.__init__" = builtinKind "IndexError.__init__" := by kernel_rfl
  have e2 : splitId "KeyError.__init__" = some ("KeyError", "__init__") := by kernel_rfl
  have e3 : Manifest.signature? "KeyError.__init__" = some ⟨.positional, "*", "KeyError", .self, [⟨"args", .varPos, false⟩]⟩ := by kernel_rfl
  have e4 := F.excBase_IndexError.initKind
  simp only [e1, e2, e3, e4, checkBuiltinCall]
  repeat (first
    | (with_reducible refine wpAny_loadPart_at he ?_; rw [hcls])
    | with_reducible refine wpAny_loadPart_at hC ?_
    | (with_reducible refine wpAny_isSubtype_exc hC ?_; rw [has])
    | wp_step)
  refine wpAny_onRaise ?_
  have ck : ∀ (a b : String) (n : Nat), Bind.check ⟨.positional, "*", "KeyError", .self, [⟨"args", .varPos, false⟩]⟩ a b n (List.map (fun x => x.fst) ({ pos := Value.ref e :: args } : Args).kw) = pure () := fun _ _ _ => check_star_args _ _ _ _ _ _
  rw [ck]
  exact wpAny_pure hq
theorem ke_init : InitOk keTail "LookupError.__new__" "KeyError.__init__" := fun prog w A R h g d t os nm q C N bs hdct sn sub ab col dd k0 k1 k2 k3 k5 e t0 args hC he hl hq => by
  have hrest := hl
  refine codeAny_call_builtin (by kernel_rfl) ke_entry (ke_check hC he rfl ?_)
  wp_walk
  refine hq _ h.objs.size (fun c o hc z => ?_) ?_
  · exact (Heap.get?_update_other _ _ (Ne.symm hc)).trans (Heap.get?_push_of_some _ z)
  · rw [Heap.get?_update_self _ (Heap.get?_push_of_some _ he) rfl]
    rfl
end Wr

set_option Elab.async false
set_option linter.all false
set_option maxRecDepth 100000
set_option maxHeartbeats 4000000
namespace Wr
open PySem PySem.Spec PyProof.Rows L2 Evl
/-! ### what the written part says of such a class -/
structure OexT (K : PySem.W.Frag) (C : Addr) (tl : List Value) (Bn newId : String) : Prop where
  tail : TailOk tl Bn newId
  cls : ∃ nm q N bs sn sub ab col dd k0 k1 k2 k3 k5, K.lookup C = some (excClassObj nm q C N bs tl true sn sub ab col dd k0 k1 k2 k3 k5 newId)
  sa : PySem.W.findIn K (.ref C) "__setattr__" = some (some (.builtin "object.__setattr__"))
  exC : PySem.W.subIn K (.ref C) (.type "BaseException") = some true
  tyC : PySem.W.typeIn K (.ref C) = some (.type "type")
  kC : PySem.W.keepIn K (.ref C) = true
section
open Builtin Builtin.ObjectAttr
variable {prog : Program} {w : World} {A : Around} {E : Value → Shared → Prop} {R : Result → Shared → Prop} {hp : Heap} {g : Array GenState} {d : Drawn} {t : Nat} {os : OsState}
/-- self.name = v, the first field -/
theorem set_first {K : W.Frag} {name : Str} {tk : Tok} {v : Value} {x C : Addr} {fv : Array Value} {cd : ClassData} {tl : List Value} {Bn newId : String} (T : TailOk tl Bn newId) (KX : K.In hp) (hx : hp.get? x = some { cls := .ref C, data := .fields fv }) (hcd : W.clsIn K C = some cd) (hm : cd.mro = .ref C :: tl) (hh : cd.hasDict = true)
    (hno : W.findIn K (.ref C) name = some none)
    (hq : ∀ h' tk' dx, (∀ b o, b ≠ x → hp.get? b = some o → h'.get? b = some o) → hp.objs.size ≤ dx → dx ≠ x → h'.get? x = some { cls := .ref C, dict := some dx, data := .fields fv } → h'.Ns1 dx (fun y => if y = name then some v else none) → R (.ok (.ret .none)) ⟨h', g, d, tk', os⟩) :
    codeAny (model prog w) A (.call (.builtin "object.__setattr__") ⟨[.ref x, .str name tk, v], []⟩) R ⟨hp, g, d, t, os⟩ := by
  have inst : W.InstAt hp x { cls := .ref C, data := .fields fv } C none := ⟨hx, rfl, rfl, trivial⟩
  have SO := F.store_object
  have hob : cd.mro.contains (.type "object") = true := by rw [hm]; exact own_contains T.obj
  have hem : cd.mro.isEmpty = false := by rw [hm]; rfl
  have far : x ≠ hp.objs.size := Nat.ne_of_lt (Heap.lt_size hx)
  have sub : W.Looks (model prog w) hp (isInstance (.ref x) (.type "object")) true := by
    refine inst.type.andThen (W.looks_mroIn KX ?_)
    unfold W.mroIn
    rw [hcd, Option.bind_some, if_neg (by rw [hem]; decide), hob]
  refine codeAny_call_builtin SO.slot.plain SO.entry (@W.check_slot (model prog w) _ _ ⟨hp, g, d, t, os⟩ "object.__setattr__" "object" "__setattr__" (.ref x) [.str name tk, v] [] _ SO.kind SO.split sub (SO.args _ _ _) ?_)
  have lcls : W.Looks (model prog w) hp (classData C) cd := W.looks_clsIn KX hcd
  have lmro : W.Looks (model prog w) hp (mroOf (.ref C)) cd.mro := lcls.andThen .now
  have ltk : W.Looks (model prog w) hp (storeTaker? none) none := .now
  rw [W.osa_eq, refuse_eq]
  refine wpAny_bind (wpAny_bind (inst.type.at (wpAny_bind (lmro.at ?_))))
  rw [hm, refuseLoop_ref, T.pass]
  refine wpAny_pure (wpAny_bind (inst.type.at (wpAny_bind ((W.looks_findIn KX hno).at (wpAny_bind (ltk.at ?_))))))
  show wpAny _ _ (storeInOwnDict (.ref x) (.ref C) (.str name tk) name v false) _ _ _
  obtain ⟨nm, bs, mro, ns, qn, hd, sn, sb, ab, col, del⟩ := cd
  dsimp only at hh
  subst hh
  unfold storeInOwnDict ownDictForStores
  repeat (first
    | with_reducible refine HandSPX.store_in_new ?_ ?_
    | with_reducible refine wpAny_loadPart_at hx ?_
    | with_reducible refine lcls.at ?_
    | wp_step)
  · exact ⟨_, #[], _, (Heap.get?_update_ne _ _ _ _ far.symm).trans (Heap.get?_push_at rfl rfl), rfl, fun e he => absurd he (by simp), fun _ => rfl⟩
  · intro h' tk' hn' hs
    have hx1 : (hp.push { cls := .type "dict", data := .dict #[] }).get? x = some { cls := .ref C, data := .fields fv } := Heap.get?_push_of_some _ hx
    exact hq h' tk' hp.objs.size (fun c o hc z => (hs.2 c (Nat.ne_of_lt (Heap.lt_size z))).trans ((Heap.get?_update_ne _ _ _ _ hc).trans (Heap.get?_push_of_some _ z))) (Nat.le_refl _) far.symm ((hs.2 x far).trans (Heap.get?_update_self _ hx1 rfl)) hn'
end
section
variable {X : Cx} {pins : List (Addr × Obj)} {σ : L2.St} {H : Hp} {s : Shared} {a C : Addr} {f : Str} {y : V} {u : Value} {A : Around} {E : Value → Shared → Prop} {tl : List Value} {Bn newId initId : String}
theorem ost_first {Q : Unit → Shared → Prop} (T : OexT X.K C tl Bn newId) (I : Inv X pins σ H s) (e : H a = some (exo a C none)) (hno : PySem.W.findIn X.K (.ref C) f = some none) (ry : RelV y u)
    (h : ∀ dx s', H dx = none → dx ≠ a → Inv X pins σ (upd (upd H dx (exd dx [(f, y)])) a (exo a C (some dx))) s' → Q () s') : wpAny (model X.prog X.w) A (setAttr (.ref a) f u) Q E s := by
  obtain ⟨nm, q, N, bs, sn, sub, ab, col, dd, k0, k1, k2, k3, k5, hC⟩ := T.cls
  have hcl : PySem.W.clsIn X.K C = some { name := nm, bases := bs, mro := .ref C :: tl, ns := N, qualname := q, hasDict := true, slotNames := sn, subclasses := sub, abstract := ab, collection := col, hasDel := false } := by
    unfold PySem.W.clsIn
    rw [hC] <;> rfl
  obtain ⟨t1, ho⟩ := exo_at I.hok e
  obtain ⟨hp, g, d, t, os⟩ := s
  refine PySem.W.set_plain I.kIn (ox := { cls := .ref C, dict := none, data := .fields #[.ref t1, .none, .none, .none, .bool false, .none] }) (od := none) ⟨ho, rfl, rfl, trivial⟩ T.sa (set_first T.tail I.kIn ho hcl rfl rfl hno fun h' tk' dx k dn dne hx hn => ?_)
  have free : H dx = none := I.hok.fresh dn
  have offd : ∀ {c : Addr} {o : Obj}, hp.get? c = some o → c ≠ dx := fun {c o} z => Nat.ne_of_lt (Nat.lt_of_lt_of_le (Heap.lt_size z) dn)
  have offa : ∀ {c : Addr}, H c = none → c ≠ a := fun {c} n z => by
    rw [z, e] at n
    cases n
  have U : Un X.fs [] H (upd (upd H dx (exd dx [(f, y)])) a (exo a C (some dx))) hp h' := {
    keep := fun c o z n _ _ => k c o (offa n) z
    slot := fun c o z n _ _ => ⟨o.slots, k c o (offa n) z⟩
    free := fun c o z n _ => by rw [upd_ne (offa n), upd_ne (offd z)]; exact n
    there := fun c o z _ => by
      by_cases hc : c = a
      · exact ⟨_, by rw [hc]; exact hx⟩
      · exact ⟨o, k c o hc z⟩
    tups := fun c xs z => by rw [upd_ne (at_ne e z exo_tup), upd_ne (ne_of_none z free)]; exact z
    frzs := fun c o v z => by rw [upd_ne (at_ne e z exo_frz), upd_ne (ne_of_none z free)]; exact z
    tbls := fun c ps z => ⟨#[], by rw [upd_ne (at_ne e z exo_tbl), upd_ne (ne_of_none z free), z]; simp⟩ }
  refine h dx _ free dne (I.un (t' := tk') U fun c o z => ?_)
  by_cases hc : c = a
  · subst hc
    rw [upd_same] at z
    cases z
    exact exo_ok hx
  · rw [upd_ne hc] at z
    by_cases hd : c = dx
    · subst hd
      rw [upd_same] at z
      cases z
      exact exd_ok hn (relO_put (fs := []) ry fun _ => True.intro)
    · rw [upd_ne hd] at z
      refine (I.hok c o z).stay (fun c' v hc' y => k c' v ?_ y) (fun c' hc' => ?_) (fun c' xs hc' => ?_)
      · rcases hc' with hc' | hc'
        · rw [hc']
          exact hc
        · exact at_ne e hc' exo_own
      · rw [upd_ne (at_ne e hc' exo_own), upd_ne (ne_of_none hc' free)]
        exact hc'
      · rw [upd_ne (at_ne e hc' exo_tup), upd_ne (ne_of_none hc' free)]
        exact hc'
theorem init_ok {us : List Value} {Q : Value → Shared → Prop} (T : OexT X.K C tl Bn newId) (hI : InitOk tl newId initId) (I : Inv X pins σ H s) (e : H a = some (exo a C none)) (hl : us.length ≤ sizeLine) (h : ∀ s', Inv X pins σ H s' → Q .none s') : wpAny (model X.prog X.w) A (call (.builtin initId) (.ref a :: us)) Q E s := by
  obtain ⟨nm, q, N, bs, sn, sub, ab, col, dd, k0, k1, k2, k3, k5, hC⟩ := T.cls
  obtain ⟨t1, ho⟩ := exo_at I.hok e
  obtain ⟨hp, g, d, t, os⟩ := s
  refine wpAny_call (hI _ _ _ _ _ _ _ _ _ _ _ _ _ _ _ _ _ _ _ _ _ _ _ _ _ _ _ _ (I.kIn _ _ hC) ho hl fun h' t2 k hx => ?_)
  have J := I.write (t' := t) (x := a) (e := a) (o := exo a C none) (by rw [e]; exact True.intro) (.inl rfl) k ⟨_, hx⟩ (exo_ok hx)
  have same : upd H a (exo a C none) = H := by
    funext c
    by_cases hc : c = a
    · rw [hc, upd_same, e]
    · exact upd_ne hc
  rw [same] at J
  exact h _ J
end
/-! ### rules -/
/-- B.__init__(self, ..) -/
def tBI (K : PySem.W.Frag) (tl : List Value) (Bn newId : String) (ta : TA) : TE := fun σ H Q => ta σ H fun vs H1 => ∃ (a C : Addr) (ws : List V), vs = .ref a :: ws ∧ ws.length ≤ 1000 ∧ OexT K C tl Bn newId ∧ H1 a = some (exo a C none) ∧ Q .non H1
/-- self.f = e, the first field -/
def tFst (K : PySem.W.Frag) (tl : List Value) (Bn newId : String) (f : Str) (to te : TE) : TS := fun D σ H => te σ H fun y H1 => to σ H1 fun x H2 => ∃ a C : Addr, x = .ref a ∧ OexT K C tl Bn newId ∧ PySem.W.findIn K (.ref C) f = some none ∧
  H2 a = some (exo a C none) ∧ ∀ dx, H2 dx = none → dx ≠ a → D.nx σ (upd (upd H2 dx (exd dx [(f, y)])) a (exo a C (some dx)))
section
variable {X : Cx} {o e : Expr} {es : List Expr} {to te : TE} {ta : TA} {f B : Str} {p p' p1 p2 pos : Pos} {tl : List Value} {Bn newId initId Bs : String}
theorem pe_binit {pl : Sem Bool} (hI : InitOk tl newId initId) (hg : Gl X B) (hm : X.mg B = none) (hv : bootBuiltins B = some (.type Bs)) (ht : typeOf (.type Bs) = pure (.type "type")) (hst : Manifest.isStub Bs = false) (hhd : PySem.W.handedIn (.builtin initId) = true) (hnn : B ≠ "__name__") (hdb : (B == ("__debug__" : Str)) = false)
    (vV : PySem.W.findCls X.K (.type Bs) (.type "type") "__init__" = some (.val (.builtin initId))) (ha : PA X (e :: es) ta)
    (hc : eval (.Call (.Attribute (.Name B p1) "__init__" p2) (e :: es) [] pos) X.env = (do
      let ov ← eval (.Name B p1) X.env
      standAt p2.atName
      let (f, first) ← holding [ov] (getMethod ov "__init__" pl)
      callWith pos f first (backTo pos (starEach (e :: es) X.env)) (backToKw pos (keywordEach [] X.env))) := by rfl)
    (he : starEach (e :: es) X.env = (false, eval e X.env) :: starEach es X.env := by rfl) (hpl : (backTo pos (starEach es X.env)).any (·.1) = false := by rfl) :
    PE X (.Call (.Attribute (.Name B p1) "__init__" p2) (e :: es) [] pos) (tBI X.K tl Bn newId ta) := by
  refine ⟨fun pins s σ H Q I h => PySem.W.methodCall_KW (ld_blt I hg hm hv ?_ hnn hdb) hc⟩
  obtain ⟨m, fr⟩ := I.fr
  refine PySem.W.method_type fr I.ok.mod.kin ht hst vV hhd ?_
  show wpAny _ _ (callWith pos (Value.builtin initId) [] (backTo pos (starEach (e :: es) X.env)) []) _ _ _
  refine PyProof.Rows.callWith_method1 (thn (ha.run pos pins _ σ H _ (I.tok _) h) fun us s1 ⟨vs, H1, I1, r1, a, C, ws, ev, hl, T, ea, q⟩ => ?_) he hpl
  subst ev
  cases r1 with
  | @cons _ u0 _ ur ra rr =>
    obtain rfl : u0 = Value.ref a := ra
    exact init_ok T hI I1 ea (by rw [← Paired.length rr, sizeLine_eq]; omega) fun s' J => ⟨.non, H1, J, rfl, q⟩
theorem ps_first (ho : PE X o to) (he : PE X e te) (hs : swapsWith e (some (.Attribute o f p')) pos.line X.env = pure false := by rfl) : PS X (.Assign [.Attribute o f p'] e pos) (tFst X.K tl Bn newId f to te) := by
  refine ⟨fun pins s σ H D I h => plainObj_wpAny_Assign_Attribute (thn (he.run pins s σ H _ I h) fun v s1 ⟨y, H1, I1, r1, q1⟩ => thn (ho.run pins s1 σ H1 _ I1 q1) fun u s2 ⟨x, H2, I2, r2, a, C, ex, T, hno, ea, q⟩ => ?_) hs⟩
  subst ex
  obtain rfl : u = Value.ref a := r2
  exact ost_first T I2 ea hno r1 fun dx s' n ne J => ⟨σ, _, J, q dx n ne⟩
/-- C(e, ..) as an exception that is raised -/
theorem pmk_t {CX : CXT} {x : Str} {C fI : Addr} {k : Nat} {fd : FuncData} {ps : List Str} {sp : Sp} (T : OexT X.K C tl Bn newId) (iC : PySem.W.findIn X.K (.ref C) "__init__" = some (some (.ref fI))) (tI : PySem.W.typeIn X.K (.ref fI) = some (.type "function"))
    (G : FnOk X.prog X.w X.K X.mg X.base CX k fI fd ps sp) (hr : Room (k + 1) X.A) (hb : Binds X.K fd ps []) (hx : Passes CX X (fun _ _ _ => False)) (hg : Gl X x) (hm : X.mg x = some (.ref C)) (ha : PA X (e :: es) ta)
    (hdb : (x == ("__debug__" : Str)) = false := by decide) (he : starEach (e :: es) X.env = (false, eval e X.env) :: starEach es X.env := by rfl) (hpl : (backTo pos (starEach es X.env)).any (·.1) = false := by rfl) :
    PMk X (.Call (.Name x p) (e :: es) [] pos) (tMkO C sp [] ta) := by
  intro pins s σ H Q I h
  obtain ⟨nm, q, N, bs, sn, sub, ab, col, dd, k0, k1, k2, k3, k5, hC⟩ := T.cls
  refine wpAny_Call_Name_kw (ld_glob I hg hm (PySem.W.callWith_K (h₀ := X.base) I.ok.mod.kin T.kC (thn (ha.run pos pins s σ H _ I h) fun us s1 ⟨vs, H1, I1, r1, hz, q1⟩ => ⟨I1.kIn, ?_⟩) he hpl) hdb)
  show wpAny _ _ (call (.ref C) us) _ _ _
  obtain ⟨hp, g, dr, tk, os⟩ := s1
  have up : hp.objs.size ≤ hp.objs.size + 1 := Nat.le_succ _
  have free : H1 (hp.objs.size + 1) = none := I1.hok.fresh up
  have hq := q1 _ free
  rw [List.append_nil] at hq
  have stay : ∀ c u, hp.get? c = some u → ((hp.push (PySem.W.kdv_tup us)).push (PySem.HandSPX.excO C hp.objs.size)).get? c = some u := fun c u z => Heap.get?_push_of_some _ (Heap.get?_push_of_some _ z)
  have at1 : ((hp.push (PySem.W.kdv_tup us)).push (PySem.HandSPX.excO C hp.objs.size)).get? (hp.objs.size + 1) = some (PySem.HandSPX.excO C hp.objs.size) := by heap_get
  have I2 : Inv X pins σ (upd H1 (hp.objs.size + 1) (exo (hp.objs.size + 1) C none)) ⟨(hp.push (PySem.W.kdv_tup us)).push (PySem.HandSPX.excO C hp.objs.size), g, dr, tk, os⟩ := I1.laid (t' := tk) stay up (exo_ok at1)
  have r2 : Vals (V.ref (hp.objs.size + 1) :: vs) (Value.ref (hp.objs.size + 1) :: us) := .cons rfl r1
  have hl : (Value.ref (hp.objs.size + 1) :: us ++ []).length = ps.length := by
    rw [List.append_nil, ← r2.length]
    exact G.len _ _ _ _ hq
  have hus : us.length ≤ sizeLine := by
    rw [← Paired.length r1, sizeLine_eq]
    omega
  have hb2 := hb ⟨(hp.push (PySem.W.kdv_tup us)).push (PySem.HandSPX.excO C hp.objs.size), g, dr, tk, os⟩ (Value.ref (hp.objs.size + 1) :: us) I2.kIn hl
  rw [List.append_nil] at hb2
  refine wpAny_call (mk_call T.tail (I1.kIn _ _ hC) hus (PySem.W.looks_findIn I1.kIn iC) (fun self => PySem.W.bind_fn I1.kIn self tI) (codeAny_mono (G.run _ X.stack _ _ ⟨Value.ref (hp.objs.size + 1) :: us, []⟩ _ _ _ (fun _ _ _ => False) (hr.make C us []) (I2.env0.make C us []) hb2 r2 hq) fun r s' hq' => ?_))
  rcases r with er | fl
  · exact hx pins σ _ _ er s' I2 hq'
  rcases fl with _ | _ | _ | u
  all_goals try exact False.elim hq'
  obtain ⟨v, H2, os2, bare2, un2, hok2, rv, ev, d, fs, ea, ed, hd1, q2⟩ := hq'
  subst ev
  obtain ⟨h2, g2, d2, t2, os'⟩ := s'
  exact ⟨rv, mk_end (raises_own T.exC T.tyC) I1 up stay un2 hok2 os2 bare2 ea ed hd1 q2⟩
end
end Wr

set_option Elab.async false
set_option linter.all false
set_option maxRecDepth 100000
set_option maxHeartbeats 4000000
namespace Wr
open PySem PySem.Spec PyProof.Rows L2 Evl
abbrev s_oo : Stmt := topS 10
abbrev s_on : Stmt := topS 11
theorem sc_on : FnScope ["op", "one", "other"] ["op", "one", "other"] (defScope s_on) := ⟨rfl, rfl, rfl, by decide +kernel, rfl, by decide +kernel, by decide +kernel⟩
theorem sc_oo : FnScope ["op", "one", "other", "number"] ["op", "one", "other"] (defScope s_oo) := ⟨rfl, rfl, rfl, by decide +kernel, rfl, by decide +kernel, by decide +kernel⟩
/-! ### ops -/
def opW : List Str := ["add", "less", "times", "over", "same", "below"]
def opN (o : Str) (i j : Int) : Int :=
  if o = "add" then i + j else if o = "less" then i - j else if o = "times" then i * j else if o = "over" then i.fdiv j else if o = "same" then (if i = j then 1 else 0) else if i < j then 1 else 0
/-- a fault's number, or the worth -/
def opR (o : Str) (i j : Int) : Int ⊕ Int :=
  if o = "over" ∧ j = 0 then .inl (-1) else if -1000000000000 ≤ opN o i j ∧ opN o i j ≤ 1000000000000 then .inr (opN o i j) else .inl (-2)
def outD : Int ⊕ Int → PyData
  | .inl f => .tuple [.int f, .none]
  | .inr w => .tuple [.none, .int w]
def Wth (i : Int) : Prop := -1000000000000 ≤ i ∧ i ≤ 1000000000000
def CDivS (i j : Int) : Prop := j ≠ 0 ∧ -1000000000000 ≤ j ∧ j ≤ 1000000000000
theorem op_fdivS {X : Cx} : OpR X (binaryOp .FloorDiv) (rI CDivS fun i j => .int (i.fdiv j)) := opI fun i j _ _ _ _ _ hc q => floordiv_int hc.1 q (.inl (PyProof.noPylong_of_log2 (by
  have h : j.natAbs < 2 ^ 41 := by
    have := hc.2
    omega
  have h0 : j.natAbs ≠ 0 := by
    have := hc.1
    omega
  have := (Nat.log2_lt h0).mpr h
  omega)))
theorem strEq (x y : Str) : PyData.eqv (.str x) (.str y) = decide (x = y) := by
  simp only [PyData.eqv]
  rfl
theorem opW_ok {o : Str} (h : o ∈ opW) : PyData.strOk o = true := by
  have q : opW.all PyData.strOk = true := by decide +kernel
  exact List.all_eq_true.mp q o h
section
variable {P : Program} {w : World} {K : PySem.W.Frag} {mg : Str → Option Value} {base : Heap} {f g g2 : Addr} {fd gd gd2 : FuncData}
def OpPre (ds : List PyData) : Prop := ∃ o i j, ds = [.str o, .int i, .int j] ∧ o ∈ opW ∧ Wth i ∧ Wth j
def opOf (F : Str → Int → Int → PyData) (ds : List PyData) : PyData := match ds with
  | [.str o, .int i, .int j] => F o i j
  | _ => .none
theorem ok_on (D : Def K mg "op_number" s_on ["op", "one", "other"] f fd) : FnOk P w K mg base CX0 1 f fd ["op", "one", "other"] (spP K (fun ds => ∃ o i j, ds = [.str o, .int i, .int j] ∧ o ∈ opW ∧ Wth i ∧ Wth j ∧ (o = "over" → j ≠ 0)) (opOf fun o i j => .int (opN o i j))) := by
  refine D.F.ok sc_on (fun vs H Q E h => spP_len (fun _ ⟨o, i, j, e, _⟩ => by rw [e]; rfl) h) (fun cdv A outer s H vs Q E hr h => ?_)
  obtain ⟨b, ds, kn, hd, ⟨o, i, j, rfl, ho, hi, hj, hov⟩, q⟩ := h
  cases hd with
  | @cons v1 _ _ _ h1 hd =>
  cases hd with
  | @cons v2 _ _ _ h2 hd =>
  cases hd with
  | @cons v3 _ _ _ h3 hd =>
  cases hd
  refine ⟨_, pss_cons (ps_if (pt_cmpR (op_eqD (hu64 hr)) (pv 0) pe_str (nomark _)) (pss_one (ps_ret (pe_op op_add (pv 1) (pv 2)))) pss_nil)
    (pss_cons (ps_if (pt_cmpR (op_eqD (hu64 hr)) (pv 0) pe_str (nomark _)) (pss_one (ps_ret (pe_op op_sub (pv 1) (pv 2)))) pss_nil)
    (pss_cons (ps_if (pt_cmpR (op_eqD (hu64 hr)) (pv 0) pe_str (nomark _)) (pss_one (ps_ret (pe_op op_mul (pv 1) (pv 2)))) pss_nil)
    (pss_cons (ps_if (pt_cmpR (op_eqD (hu64 hr)) (pv 0) pe_str (nomark _)) (pss_one (ps_ret (pe_op op_fdivS (pv 1) (pv 2)))) pss_nil)
    (pss_cons (ps_if (pt_cmpR (op_eqD (hu64 hr)) (pv 0) pe_str (nomark _)) (pss_one (ps_ret (pe_ifExp (pt_cmpR (op_eqD (hu64 hr)) (pv 1) (pv 2) (nomark _)) pe_int pe_int))) pss_nil)
    (pss_one (ps_ret (pe_ifExp (pt_cmpR op_lt (pv 1) (pv 2) (nomark _)) pe_int pe_int))))))), ?_⟩
  have te : ∀ (x : Str), PyData.strOk x = true → EvT (tTest (tOp (rEqD K) (tVar 0) (tC (.str x)))) (start ["op", "one", "other"] [v1, v2, v3]) H (decide (o = x)) := fun x hx => by
    have := et_t (ed_eq (K := K) (b := b) (ed_var (σ := start ["op", "one", "other"] [v1, v2, v3]) (i := 0) rfl h1) (ed_str (x := x)) (sh_str (opW_ok ho)) (sh_str hx))
    rw [strEq] at this
    exact this
  have e1 := ed_var (K := K) (b := b) (σ := start ["op", "one", "other"] [v1, v2, v3]) (i := 1) rfl h2
  have e2 := ed_var (K := K) (b := b) (σ := start ["op", "one", "other"] [v1, v2, v3]) (i := 2) rfl h3
  have teq := et_t (ed_eq e1 e2 (sh_int _) (sh_int _))
  rw [eqv_int] at teq
  have tlt := et_t (ed_lt e1 e2)
  refine SR.fin ((sr_if (te "add" (by decide +kernel)) (fun _ => sr_ret (ed_add e1 e2)) fun _ => sr_if (te "less" (by decide +kernel)) (fun _ => sr_ret (ed_sub e1 e2)) fun _ => sr_if (te "times" (by decide +kernel)) (fun _ => sr_ret (ed_mul e1 e2 (.inl ⟨by have := hi.1; omega, by have := hi.2; omega⟩)))
    fun _ => sr_if (te "over" (by decide +kernel)) (fun h => sr_ret (ed_I (C := CDivS) e1 e2 ⟨hov (of_decide_eq_true h), hj.1, hj.2⟩ fun _ => .int _)) fun _ => sr_if (te "same" (by decide +kernel)) (fun _ => sr_ret (ed_if teq (fun _ => ed_int (i := 1)) fun _ => ed_int (i := 0))) fun _ => sr_ret (ed_if tlt (fun _ => ed_int (i := 1)) fun _ => ed_int (i := 0))).to ?_) q
  show _ = PyData.int (opN o i j)
  unfold opN
  by_cases c1 : o = "add"
  · rw [if_pos c1, decide_eq_true c1, if_pos rfl]
  rw [if_neg c1, decide_eq_false c1, if_neg Bool.false_ne_true]
  by_cases c2 : o = "less"
  · rw [if_pos c2, decide_eq_true c2, if_pos rfl]
  rw [if_neg c2, decide_eq_false c2, if_neg Bool.false_ne_true]
  by_cases c3 : o = "times"
  · rw [if_pos c3, decide_eq_true c3, if_pos rfl]
  rw [if_neg c3, decide_eq_false c3, if_neg Bool.false_ne_true]
  by_cases c4 : o = "over"
  · rw [if_pos c4, decide_eq_true c4, if_pos rfl]
  rw [if_neg c4, decide_eq_false c4, if_neg Bool.false_ne_true]
  by_cases c5 : o = "same"
  · rw [if_pos c5, decide_eq_true c5, if_pos rfl]
    by_cases c6 : i = j
    · rw [if_pos c6, c6, beq_self_eq_true, if_pos rfl]
    · rw [if_neg c6, beq_eq_false_iff_ne.mpr c6, if_neg Bool.false_ne_true]
  rw [if_neg c5, decide_eq_false c5, if_neg Bool.false_ne_true]
  by_cases c6 : i < j
  · rw [if_pos c6, decide_eq_true c6, if_pos rfl]
  · rw [if_neg c6, decide_eq_false c6, if_neg Bool.false_ne_true]
theorem ok_oo (D : Def K mg "op_outcome" s_oo ["op", "one", "other"] f fd) (D1 : Def K mg "op_number" s_on ["op", "one", "other"] g gd) (D2 : Def K mg "is_worth" s_is_worth ["thing"] g2 gd2) (G2 : FnOk P w K mg base CX0 2 g2 gd2 ["thing"] (spP K (fun ds => ds.length = 1) (F1 worthD))) {t1 t2 : Tok} (m1 : mg "OVER_BY_NOUGHT" = some (.int (-1) t1)) (m2 : mg "NO_WORTH" = some (.int (-2) t2)) :
    FnOk P w K mg base CX0 3 f fd ["op", "one", "other"] (spP K OpPre (opOf fun o i j => outD (opR o i j))) := by
  refine D.F.ok sc_oo (fun vs H Q E h => spP_len (fun _ ⟨o, i, j, e, _⟩ => by rw [e]; rfl) h) (fun cdv A outer s H vs Q E hr h => ?_)
  obtain ⟨b, ds, kn, hd, ⟨o, i, j, rfl, ho, hi, hj⟩, q⟩ := h
  cases hd with
  | @cons v1 _ _ _ h1 hd =>
  cases hd with
  | @cons v2 _ _ _ h2 hd =>
  cases hd with
  | @cons v3 _ _ _ h3 hd =>
  cases hd
  have G1 := ok_on (P := P) (w := w) (base := base) D1
  refine ⟨_, pss_cons (ps_if (PW.pt (pw_and (pt_cmpR (op_eqD (hu64 hr)) (pv 0) pe_str (nomark _)) (pw_and1 (pt_cmpR (op_eqD (hu64 hr)) (pv 2) pe_int (nomark _))))) (pss_one (ps_ret (pe_tupF (pa_cons (pe_gI m1) (pa_cons pe_non pa_nil))))) pss_nil)
    (pss_cons (ps_set (i := 3) sc_oo.nd rfl (Or.inl rfl) (pe_cd D1 G1 (hr.mono (by decide)) (pa_cons (pv 0) (pa_cons (pv 1) (pa_cons (pv 2) pa_nil)))))
    (pss_cons (ps_if (pt_not (pt_val (pe_cd D2 G2 hr (pa_cons (pv 3) pa_nil)))) (pss_one (ps_ret (pe_tupF (pa_cons (pe_gI m2) (pa_cons pe_non pa_nil))))) pss_nil)
    (pss_one (ps_ret (pe_tupF (pa_cons pe_non (pa_cons (pv 3) pa_nil))))))), ?_⟩
  have t1 := et_t (ed_eq (K := K) (b := b) (ed_var (σ := start ["op", "one", "other", "number"] [v1, v2, v3]) (i := 0) rfl h1) (ed_str (x := "over")) (sh_str (opW_ok ho)) (sh_str (by decide +kernel)))
  have t2 := et_t (ed_eq (K := K) (b := b) (ed_var (σ := start ["op", "one", "other", "number"] [v1, v2, v3]) (i := 2) rfl h3) (ed_int (i := 0)) (sh_int _) (sh_int _))
  rw [strEq] at t1
  rw [eqv_int] at t2
  have t12 := et_and t1 fun _ => t2
  refine SR.fin ((sr_if (d := outD (.inl (-1))) (e := outD (opR o i j)) t12 (fun _ => sr_ret (ed_tup kn (ea_cons (ed_c (v := .int (-1)) (.int (-1))) (ea_cons ed_non ea_nil)) (by decide))) fun hc => ?_).to ?_) q
  · have hz : ¬ (o = "over" ∧ j = 0) := fun z => by
      rw [decide_eq_true z.1, z.2] at hc
      cases hc
    refine sr_set (ed_call (K := K) (b := b) (E := E0) kn (ea_cons (ed_var (i := 0) rfl h1) (ea_cons (ed_var (i := 1) rfl h2) (ea_cons (ed_var (i := 2) rfl h3) ea_nil))) ⟨o, i, j, rfl, ho, hi, hj, fun e z => hz ⟨e, z⟩⟩) fun v4 H' x' h4 => ?_
    have e4 : (opOf fun o i j => PyData.int (opN o i j)) [.str o, .int i, .int j] = .int (opN o i j) := rfl
    rw [e4] at h4
    have t3 := et_n (et_b (ed_call (K := K) (b := b) (σ := (start ["op", "one", "other", "number"] [v1, v2, v3]).set 3 (some v4)) (pre := fun ds => ds.length = 1) (f := F1 worthD) (E := E0) (kn.up x') (ea_cons (ed_var (i := 3) rfl h4) ea_nil) rfl))
    refine (sr_if t3 (fun _ => sr_ret (ed_tup (kn.up x') (ea_cons (ed_c (v := .int (-2)) (.int (-2))) (ea_cons ed_non ea_nil)) (by decide))) fun _ => sr_ret (ed_tup (kn.up x') (ea_cons ed_non (ea_cons (ed_var (i := 3) rfl h4) ea_nil)) (by rw [sizeLine_eq]; show 2 ≤ 16777216; decide))).to ?_
    unfold opR
    rw [if_neg hz]
    show (if (!(decide (-1000000000000 ≤ opN o i j) && decide (opN o i j ≤ 1000000000000))) = true then _ else _) = _
    by_cases c : -1000000000000 ≤ opN o i j ∧ opN o i j ≤ 1000000000000
    · rw [if_pos c, decide_eq_true c.1, decide_eq_true c.2]
      rfl
    · rw [if_neg c]
      have : (decide (-1000000000000 ≤ opN o i j) && decide (opN o i j ≤ 1000000000000)) = false := by
        cases h : (decide (-1000000000000 ≤ opN o i j) && decide (opN o i j ≤ 1000000000000)) with
        | false => rfl
        | true =>
          rw [Bool.and_eq_true] at h
          exact absurd ⟨of_decide_eq_true h.1, of_decide_eq_true h.2⟩ c
      rw [this]
      rfl
  · show _ = outD (opR o i j)
    by_cases c : o = "over" ∧ j = 0
    · have : opR o i j = .inl (-1) := by
        unfold opR
        rw [if_pos c]
      rw [this]
      split <;> rfl
    · have hn : (decide (o = "over") && (j == 0)) = false := by
        cases h : (decide (o = "over") && (j == 0)) with
        | false => rfl
        | true =>
          rw [Bool.and_eq_true] at h
          exact absurd ⟨of_decide_eq_true h.1, by simpa using h.2⟩ c
      rw [hn, if_neg Bool.false_ne_true]
end
end Wr

set_option Elab.async false
set_option linter.all false
set_option maxRecDepth 100000
set_option maxHeartbeats 4000000
namespace Wr
open PySem PySem.Spec PyProof.Rows L2 Evl
abbrev exTail : List Value := [.type "Exception", .type "BaseException", .type "object"]
theorem ex_tail : TailOk exTail "Exception" "Exception.__new__" := ⟨⟨_, _, F.excBase_Exception⟩, by decide +kernel, by decide +kernel, by decide +kernel, by decide +kernel, fun _ => by kernel_rfl⟩
theorem ex_init : InitOk exTail "Exception.__new__" "Exception.__init__" := fun _ _ _ _ _ _ _ _ _ _ _ _ _ _ _ _ _ _ _ _ _ _ _ _ _ _ _ _ hC he hl hq => HandSPX.init_base F.excBase_Exception (fun _ => rfl) hC he hl hq
abbrev s_fti : Stmt := inClass (topS 14) 0
theorem sc_fti : FnScope ["self", "number"] ["self", "number"] (defScope s_fti) := ⟨rfl, rfl, rfl, by decide +kernel, rfl, by decide +kernel, by decide +kernel⟩
abbrev ExC (K : PySem.W.Frag) (C : Addr) : Prop := OexT K C exTail "Exception" "Exception.__new__"
/-- what the top leaves of Fault -/
structure FtC (K : PySem.W.Frag) (mg : Str → Option Value) (C fI : Addr) (fdI : FuncData) : Prop where
  T : ExC K C
  F : Fun K "__init__" "Fault.__init__" s_fti fI fdI
  b : Binds K fdI ["self", "number"] []
  m : mg "Fault" = some (.ref C)
  i : PySem.W.findIn K (.ref C) "__init__" = some (some (.ref fI))
  t : PySem.W.typeIn K (.ref fI) = some (.type "function")
  n : PySem.W.findIn K (.ref C) "number" = some none
  v : PySem.W.findCls K (.type "Exception") (.type "type") "__init__" = some (.val (.builtin "Exception.__init__"))
  kb : mg "Exception" = none
/-- a fault in the air: its own dict is new -/
def XF (C : Addr) (H : Hp) (f : Int) (E : XK) : Prop := ∀ dx Hf, H dx = none → Ex H Hf → Hf dx = some (.xd [("number", .int f)]) → E (.ref C) (some dx) Hf
def spFti (K : PySem.W.Frag) : Sp := fun vs H Q _ => ∃ (a C : Addr) (f : Int), vs = [.ref a, .int f] ∧ ExC K C ∧ PySem.W.findIn K (.ref C) "number" = some none ∧ H a = some (exo a C none) ∧ f.natAbs < 10 ^ 45 ∧
  ∀ dx H1, Ex H H1 → H1 dx = none → dx ≠ a → Q .non (upd (upd H1 dx (exd dx [("number", .int f)])) a (exo a C (some dx)))
theorem bt_ex : bootBuiltins "Exception" = some (.type "Exception") := by decide +kernel
theorem ty_ex : typeOf (.type "Exception") = pure (.type "type") := by kernel_rfl
theorem txt_fits {i : Int} (h : i.natAbs < 10 ^ 45) : (toString i : Str).length ≤ 2000 := int_text_len_1921 (log_small h) |> fun z => Nat.le_trans z (by decide)
section
variable {P : Program} {w : World} {K : PySem.W.Frag} {mg : Str → Option Value} {base : Heap} {f g C fI : Addr} {fd gd fdI : FuncData}
theorem ok_fti (T : FtC K mg C fI fdI) : FnOk P w K mg base CX0 1 fI fdI ["self", "number"] (spFti K) := by
  refine T.F.ok sc_fti (fun vs H Q E ⟨a, C, f, e, _⟩ => by rw [e]; rfl) (fun cdv A outer s H vs Q E hr h => ?_)
  obtain ⟨a, C', f, rfl, hC, hno, ha, hf, q⟩ := h
  refine ⟨_, pss_cons (ps_expr (pe_binit (tl := exTail) (Bn := "Exception") (newId := "Exception.__new__") ex_init rfl T.kb bt_ex ty_ex (by decide +kernel) (by decide +kernel) (by decide) (by decide) T.v (pa_cons (pv 0) (pa_cons (pe_joined (.cons pe_str (.cons (pe_fmt (pv 1)) .nil))) pa_nil))))
    (pss_one (ps_first (tl := exTail) (Bn := "Exception") (newId := "Exception.__new__") (pv 0) (pv 1))), ?_⟩
  have hsl : sizeLine = 16777216 := sizeLine_eq
  refine ⟨.ref a, rfl, "the fault ", rfl, by rw [hsl]; decide +kernel, .int f, rfl, .inr ⟨f, rfl, log_small hf, toString f, rfl, ?_, ?_⟩⟩
  · have h1 := txt_fits hf
    have h2 : (Str.empty ++ "the fault " ++ (toString f : Str)).length = 10 + (toString f : Str).length := by
      show ((Str.empty ++ "the fault " : Str).cps ++ (toString f : Str).cps).size = _
      rw [Array.size_append]
      rfl
    rw [h2]
    omega
  · refine ⟨a, C', _, rfl, by show 1 ≤ 1000; decide, hC, ha, ?_⟩
    exact ⟨.int f, rfl, .ref a, rfl, a, C', rfl, hC, hno, ha, fun dx hdx hne => q dx H (Ex.refl H) hdx hne⟩
end
section
variable {X : Cx} {C fI : Addr} {fdI : FuncData} {e : Expr} {te : TE} {p pos rpos : Pos} {W : WX} {σ : L2.St} {H : Hp} {f : Int}
theorem mk_ft {E : XK} {K : PySem.W.Frag} (hT : ExC K C) (hn : PySem.W.findIn K (.ref C) "number" = some none) (hf : f.natAbs < 10 ^ 45) (h : te σ H fun v H1 => v = .int f ∧ H1 = H) (hx : XF C H f E) (hm : ∀ Q Q' : VK, (∀ v H', Q v H' → Q' v H') → te σ H Q → te σ H Q') : tMkO C (spFti K) [] (tCons te tNil) σ H E :=
  hm _ _ (fun v H1 ⟨ev, eH⟩ => ⟨by show 1 ≤ 1000; decide, fun a ha => by
    subst ev eH
    refine ⟨a, C, f, rfl, hT, hn, upd_same, hf, fun dx H2 x2 hdx hne => ⟨rfl, dx, [("number", .int f)], upd_same, by rw [upd_ne hne]; exact upd_same, ?_, ?_⟩⟩
    · cases z : H1 dx with
      | none => rfl
      | some o =>
        have := x2 _ _ (Ex.new (o := exo a C none) ha _ _ z)
        rw [this] at hdx
        cases hdx
    · have h0 : H1 dx = none := by
        cases z : H1 dx with
        | none => rfl
        | some o =>
          have := x2 _ _ (Ex.new (o := exo a C none) ha _ _ z)
          rw [this] at hdx
          cases hdx
      refine hx dx _ h0 (fun c o z => ?_) upd_same
      have hc : c ≠ a := fun e => by rw [e, ha] at z; cases z
      have hcd : c ≠ dx := fun e => by rw [e, h0] at z; cases z
      rw [upd_ne hcd, del_ne hc, upd_ne hc, upd_ne hcd]
      exact x2 _ _ (Ex.new ha _ _ z)⟩) h
theorem ps_ft (T : FtC X.K X.mg C fI fdI) (hc : X.calm = true) (tk : Takes X W) (hr : Room 2 X.A) (ha : PE X e te) (hg : Gl X "Fault" := by rfl)
    (he : starEach [e] X.env = (false, eval e X.env) :: starEach [] X.env := by rfl) : PS X (.Raise (some (.Call (.Name "Fault" p) [e] [] pos)) none rpos) (fun _ σ H => tMkO C (spFti X.K) [] (tCons te tNil) σ H fun cls d H' => W cls d σ H') :=
  ps_raise hc tk (pmk_t T.T T.i T.t (ok_fti (P := X.prog) (w := X.w) (base := X.base) T) hr T.b pass0 hg T.m (pa_cons ha pa_nil he) (by decide) he rfl)
end
/-! ### a method that may raise -/
def tMethX (C : Addr) (m : Str) (sp : Sp) (E : L2.St → XK) (ta : TE) (t : TA) : TE := fun σ H Q => ta σ H fun x H1 => ∃ a dx fs, x = .ref a ∧ H1 a = some (.ins C dx fs) ∧ fs.lookup m = none ∧ t σ H1 fun vs H2 => sp (x :: vs) H2 Q (E σ)
section
variable {X : Cx} {CX : CXT} {k : Nat} {f C : Addr} {fd : FuncData} {ps : List Str} {sp : Sp} {E : L2.St → XK} {m : Str} {pos apos : Pos} {e o : Expr} {es : List Expr} {ta : TE} {t : TA}
theorem pe_methX {pl : Sem Bool} (ho : PE X o ta) (c : Cls X.K C) (hm : Meth X.K C m f) (G : FnOk X.prog X.w X.K X.mg X.base CX k f fd ps sp) (hr : Room k X.A) (hb : Binds X.K fd ps []) (hx : ∀ σ, PassesAt CX X σ (E σ)) (ha : PA X (e :: es) t)
    (hst : starEach (e :: es) X.env = (false, eval e X.env) :: starEach es X.env := by rfl) (hpl : (backTo pos (starEach es X.env)).any (·.1) = false := by rfl)
    (ht : eval (.Call (.Attribute o m apos) (e :: es) [] pos) X.env = (do
      let ov ← eval o X.env
      standAt apos.atName
      let (f, first) ← holding [ov] (getMethod ov m pl); callWith pos f first (backTo pos (starEach (e :: es) X.env)) (backToKw pos (keywordEach [] X.env))) := by rfl) :
    PE X (.Call (.Attribute o m apos) (e :: es) [] pos) (tMethX C m sp E ta t) := by
  refine ⟨fun pins s σ H Q I hq => ?_⟩
  refine PySem.W.methodCall_KW (pl := pl) (thn (ho.run pins s σ H _ I hq) fun u s1 ⟨x, H1, I1, rx, a, dx, fs, ea0, ea, l, q⟩ => ?_) ht
  subst ea0
  obtain rfl : u = Value.ref a := rx
  refine getmeth_ok I1 ea c hm l (PySem.W.callWith_K (first := [.ref a]) (h₀ := X.base) I.ok.mod.kin hm.kp (thn (ha.run pos pins s1 σ H1 _ I1 q) fun us s2 ⟨vs, H2, I2, r, q2⟩ => ⟨I2.kIn, ?_⟩) hst hpl)
  exact run_fnS (us := .ref a :: us) (vs := .ref a :: vs) G hr hb (hx σ) I2 (.cons rfl r) q2
end
end Wr

set_option Elab.async false
set_option linter.all false
set_option maxRecDepth 100000
set_option maxHeartbeats 4000000
namespace Wr
open PySem PySem.Spec PyProof.Rows L2 Evl
/-! ### what a tree means: values, sayings, calls, loops -/
abbrev Env' := Str → Option Int
def Env'.ok (ρ : Env') : Prop := ∀ y w, ρ y = some w → Wth w
def putE (ρ : Env') (y : Str) (w : Int) : Env' := fun z => if z = y then some w else ρ z
def putAll : Env' → List Str → List Int → Env'
  | ρ, y :: ys, i :: is => putAll (putE ρ y i) ys is
  | ρ, _, _ => ρ
def envOf (ys : List Str) (is : List Int) : Env' := putAll (fun _ => none) ys is
/-- a tuple's names and its sayings -/
abbrev Tt := Str → Option (List Str × List PyData)
inductive RV where
  | w (i : Int)
  | f (i : Int)
  | l
  | s
inductive RG where
  | n
  | b (i : Int)
  | f (i : Int)
  | l
  | s
/-- how many sayings may still be begun, what was said -/
structure Stt where
  l : Int
  said : List Int
structure Sem where
  v : Nat → Env' → Stt → PyData → RV × Stt
  g : Nat → Env' → Stt → List PyData → RG × Env' × Stt
/-- values one behind another -/
def valsF (V : Stt → PyData → RV × Stt) : Stt → List PyData → (RV ⊕ List Int) × Stt
  | s, [] => (.inr [], s)
  | s, d :: ds => match V s d with
    | (.w i, s1) => match valsF V s1 ds with
      | (.inr is, s2) => (.inr (i :: is), s2)
      | (.inl r, s2) => (.inl r, s2)
    | (r, s1) => (.inl r, s1)
def outG : RG → RV
  | .n => .w 0
  | .b i => .w i
  | .f i => .f i
  | .l => .l
  | .s => .s
def callF (T : Tt) (F : Sem) (deep : Nat) (x : Str) (is : List Int) (s : Stt) : RV × Stt :=
  if 12 ≤ deep then (.f (-4), s) else match T x with
    | none => (.s, s)
    | some t => (outG (F.g (deep + 1) (envOf t.1 is) s t.2).1, (F.g (deep + 1) (envOf t.1 is) s t.2).2.2)
def strD (d : PyData) : Str := match d with
  | .str x => x
  | _ => ""
def tupD (d : PyData) : List PyData := match d with
  | .tuple ds => ds
  | _ => []
def vStep (T : Tt) (F : Sem) (deep : Nat) (ρ : Env') (s : Stt) (d : PyData) : RV × Stt := match d with
  | .int i => (.w i, s)
  | .tuple [.str _, a] => match ρ (strD a) with
    | some w => (.w w, s)
    | none => (.f (-3), s)
  | .tuple [.str o, a, b] => if o = "call" then match valsF (fun s d => F.v deep ρ s d) s (tupD b) with
      | (.inl r, s1) => (r, s1)
      | (.inr is, s1) => callF T F deep (strD a) is s1
    else match F.v deep ρ s a with
      | (.w i, s1) => match F.v deep ρ s1 b with
        | (.w j, s2) => match opR o i j with
          | .inl f => (.f f, s2)
          | .inr w => (.w w, s2)
        | (r, s2) => (r, s2)
      | (r, s1) => (r, s1)
  | _ => (.s, s)
def retV (r : RV) : RG := match r with
  | .w _ => .s
  | .f i => .f i
  | .l => .l
  | .s => .s
def whileF (V : Env' → Stt → RV × Stt) (G : Env' → Stt → RG × Env' × Stt) : Nat → Env' → Stt → RG × Env' × Stt
  | 0, ρ, s => (.s, ρ, s)
  | m + 1, ρ, s => match V ρ s with
    | (.w i, s1) => if i = 0 then (.n, ρ, s1) else match G ρ s1 with
      | (.n, ρ2, s2) => if s2.l ≤ 0 then (.l, ρ2, s2) else whileF V G m ρ2 ⟨s2.l - 1, s2.said⟩
      | r => r
    | (r, s1) => (retV r, ρ, s1)
/-- a saying whose value has come -/
def oneF (F : Sem) (deep : Nat) (o : Str) (ρ : Env') (s : Stt) (i : Int) : RG × Env' × Stt :=
  if o = "throw" then (.f i, ρ, s) else if o = "back" then (.b i, ρ, s) else (.n, ρ, ⟨s.l, s.said ++ [i]⟩)
def sStep (T : Tt) (F : Sem) (deep : Nat) (ρ : Env') (s : Stt) (d : PyData) : RG × Env' × Stt := match d with
  | .tuple [.str o, a] => match F.v deep ρ s a with
    | (.w i, s1) => oneF F deep o ρ s1 i
    | (r, s1) => (retV r, ρ, s1)
  | .tuple [.str o, a, b] => if o = "set" then match F.v deep ρ s b with
      | (.w i, s1) => (.n, putE ρ (strD a) i, s1)
      | (r, s1) => (retV r, ρ, s1)
    else whileF (fun ρ s => F.v deep ρ s a) (fun ρ s => F.g deep ρ s (tupD b)) (s.l.toNat + 1) ρ s
  | .tuple [.str o, a, b, c] => if o = "if" then match F.v deep ρ s a with
      | (.w i, s1) => F.g deep ρ s1 (if i = 0 then tupD c else tupD b)
      | (r, s1) => (retV r, ρ, s1)
    else match F.g deep ρ s (tupD a) with
      | (.f i, ρ1, s1) => F.g deep (putE ρ1 (strD b) i) s1 (tupD c)
      | r => r
  | _ => (.s, ρ, s)
def gStep (T : Tt) (F : Sem) (deep : Nat) : Env' → Stt → List PyData → RG × Env' × Stt
  | ρ, s, [] => (.n, ρ, s)
  | ρ, s, d :: ds => if s.l ≤ 0 then (.l, ρ, s) else match sStep T F deep ρ ⟨s.l - 1, s.said⟩ d with
    | (.n, ρ1, s1) => gStep T F deep ρ1 s1 ds
    | r => r
def sem (T : Tt) : Nat → Sem
  | 0 => ⟨fun _ _ s _ => (.s, s), fun _ ρ s _ => (.s, ρ, s)⟩
  | n + 1 => ⟨fun deep ρ s d => vStep T (sem T n) deep ρ s d, fun deep ρ s ds => gStep T (sem T n) deep ρ s ds⟩
/-! ### the shapes -/
inductive VaP (hs : Hds) : Nat → PyData → Prop
  | num {n : Nat} {i : Int} : Wth i → VaP hs (n + 1) (.int i)
  | name {n : Nat} {y : Str} : PyData.strOk y = true → VaP hs (n + 1) (.tuple [.str "name", .str y])
  | op {n : Nat} {o : Str} {c d : PyData} : o ∈ opW → VaP hs n c → VaP hs n d → VaP hs (n + 1) (.tuple [.str o, c, d])
  | call {n : Nat} {x : Str} {ds : List PyData} : (x, ds.length) ∈ hs → PyData.strOk x = true → (∀ d ∈ ds, VaP hs n d) → VaP hs (n + 1) (.tuple [.str "call", .str x, .tuple ds])
def oneW' : List Str := ["say", "back", "throw"]
inductive SaP (hs : Hds) (w : Nat) : Nat → PyData → Prop
  | set {n : Nat} {y : Str} {v : PyData} : PyData.strOk y = true → VaP hs w v → SaP hs w (n + 1) (.tuple [.str "set", .str y, v])
  | one {n : Nat} {o : Str} {v : PyData} : o ∈ oneW' → VaP hs w v → SaP hs w (n + 1) (.tuple [.str o, v])
  | ite {n : Nat} {v : PyData} {ss ts : List PyData} : VaP hs w v → (∀ s ∈ ss, SaP hs w n s) → (∀ s ∈ ts, SaP hs w n s) → SaP hs w (n + 1) (.tuple [.str "if", v, .tuple ss, .tuple ts])
  | whl {n : Nat} {v : PyData} {ss : List PyData} : VaP hs w v → (∀ s ∈ ss, SaP hs w n s) → SaP hs w (n + 1) (.tuple [.str "while", v, .tuple ss])
  | tri {n : Nat} {y : Str} {ss ts : List PyData} : PyData.strOk y = true → (∀ s ∈ ss, SaP hs w n s) → (∀ s ∈ ts, SaP hs w n s) → SaP hs w (n + 1) (.tuple [.str "try", .tuple ss, .str y, .tuple ts])
/-- the tuples fit the heads; how deep they are -/
structure TtOk (hs : Hds) (M : Nat) (T : Tt) : Prop where
  at_ : ∀ x k, (x, k) ∈ hs → ∃ t : List Str × List PyData, T x = some t ∧ t.1.length = k
  k3 : ∀ p ∈ hs, p.2 ≤ 10
  ok : ∀ x t, T x = some t → t.1.length ≤ 10 ∧ (t.1.all PyData.strOk) = true ∧ ∃ w n, (w + n ≤ M ∧ w + 3 * n ≤ 14) ∧ ∀ s ∈ t.2, SaP hs w n s
theorem opW_noCall {o : Str} (h : o ∈ opW) : o ≠ "call" := by
  have q : (opW.all fun o => decide (o ≠ "call")) = true := by decide +kernel
  exact of_decide_eq_true (List.all_eq_true.mp q o h)
section
variable {T : Tt} {F : Sem} {deep : Nat} {ρ : Env'} {s : Stt}
theorem v_op {o : Str} {a b : PyData} (h : o ∈ opW) : vStep T F deep ρ s (.tuple [.str o, a, b]) = match F.v deep ρ s a with
      | (.w i, s1) => match F.v deep ρ s1 b with
        | (.w j, s2) => match opR o i j with
          | .inl f => (.f f, s2)
          | .inr w => (.w w, s2)
        | (r, s2) => (r, s2)
      | (r, s1) => (r, s1) := if_neg (opW_noCall h)
theorem v_call {a b : PyData} : vStep T F deep ρ s (.tuple [.str "call", a, b]) = match valsF (fun s d => F.v deep ρ s d) s (tupD b) with
      | (.inl r, s1) => (r, s1)
      | (.inr is, s1) => callF T F deep (strD a) is s1 := by
  unfold vStep
  exact if_pos rfl
end
/-! ### what stays: worths, how many may still be begun -/
structure SttLe (s s' : Stt) : Prop where
  le : s'.l ≤ s.l
  nn : 0 ≤ s.l → 0 ≤ s'.l
  len : (s'.said.length : Int) + s'.l ≤ s.said.length + s.l
  wth : (∀ i ∈ s.said, Wth i) → ∀ i ∈ s'.said, Wth i
theorem SttLe.refl (s : Stt) : SttLe s s := ⟨Int.le_refl _, id, Int.le_refl _, id⟩
theorem SttLe.trans {a b c : Stt} (h : SttLe a b) (k : SttLe b c) : SttLe a c := ⟨Int.le_trans k.le h.le, fun z => k.nn (h.nn z), Int.le_trans k.len h.len, fun z => k.wth (h.wth z)⟩
theorem SttLe.count {s : Stt} (h : ¬ s.l ≤ 0) : SttLe s ⟨s.l - 1, s.said⟩ := ⟨by show s.l - 1 ≤ s.l; omega, fun _ => by show 0 ≤ s.l - 1; omega, by show (s.said.length : Int) + (s.l - 1) ≤ _; omega, id⟩
def VOk (r : RV × Stt) (s : Stt) : Prop := SttLe s r.2 ∧ ∀ i, r.1 = .w i ∨ r.1 = .f i → Wth i
def GOk (r : RG × Env' × Stt) (s : Stt) : Prop := SttLe s r.2.2 ∧ r.2.1.ok ∧ ∀ i, r.1 = .b i ∨ r.1 = .f i → Wth i
/-- what is behind each level -/
structure SemOk (hs : Hds) (F : Sem) : Prop where
  v : ∀ deep ρ s d m, ρ.ok → VaP hs m d → VOk (F.v deep ρ s d) s
  g : ∀ deep ρ s ds w m, ρ.ok → (∀ d ∈ ds, SaP hs w m d) → GOk (F.g deep ρ s ds) s
theorem putE_ok {ρ : Env'} {y : Str} {f : Int} (hρ : ρ.ok) (hf : Wth f) : (putE ρ y f).ok := fun z w h => by
  unfold putE at h
  split at h
  · cases h
    exact hf
  · exact hρ z w h
theorem putAll_ok : ∀ {ρ : Env'} {ys : List Str} {is : List Int}, ρ.ok → (∀ i ∈ is, Wth i) → (putAll ρ ys is).ok
  | ρ, [], is, h, _ => by cases is <;> exact h
  | ρ, y :: ys, [], h, _ => h
  | ρ, y :: ys, i :: is, h, hi => putAll_ok (ys := ys) (putE_ok h (hi i List.mem_cons_self)) fun j hj => hi j (List.mem_cons_of_mem _ hj)
theorem env_ok {ys : List Str} {is : List Int} (hi : ∀ i ∈ is, Wth i) : (envOf ys is).ok := putAll_ok (fun y w h => by cases h) hi
theorem opR_w {o : Str} {i j w : Int} (h : opR o i j = .inr w) : Wth w := by
  unfold opR at h
  split at h
  · cases h
  · split at h
    · rename_i c
      cases h
      exact c
    · cases h
theorem wth_neg {f : Int} (h : f = -1 ∨ f = -2 ∨ f = -3 ∨ f = -4) : Wth f := by
  rcases h with rfl | rfl | rfl | rfl <;> exact ⟨by decide, by decide⟩
theorem opR_f {o : Str} {i j f : Int} (h : opR o i j = .inl f) : f = -1 ∨ f = -2 := by
  unfold opR at h
  split at h
  · injection h with h
    exact .inl h.symm
  · split at h
    · cases h
    · injection h with h
      exact .inr h.symm
theorem vals_ok {V : Stt → PyData → RV × Stt} : ∀ {ds : List PyData} {s : Stt}, (∀ d ∈ ds, ∀ s, VOk (V s d) s) → SttLe s (valsF V s ds).2 ∧ (∀ is, (valsF V s ds).1 = .inr is → (∀ i ∈ is, Wth i) ∧ is.length = ds.length) ∧ ∀ r, (valsF V s ds).1 = .inl r → (∀ i, r ≠ .w i) ∧ ∀ i, r = .f i → Wth i
  | [], s, _ => ⟨SttLe.refl s, fun is e => by cases e; exact ⟨fun i h => (nomatch h), rfl⟩, fun r e => by cases e⟩
  | d :: ds, s, h => by
    have h1 := h d List.mem_cons_self s
    unfold valsF
    rcases e : V s d with ⟨r, s1⟩
    rw [e] at h1
    cases r with
    | w i =>
      have ih := vals_ok (ds := ds) (s := s1) fun d hd => h d (List.mem_cons_of_mem _ hd)
      dsimp only
      rcases e2 : valsF V s1 ds with ⟨r2, s2⟩
      rw [e2] at ih
      obtain ⟨a, b, c⟩ := ih
      cases r2 with
      | inl r2 => exact ⟨h1.1.trans a, fun is e => (by cases e), fun r e => by cases e; exact c _ rfl⟩
      | inr is =>
        refine ⟨h1.1.trans a, fun is' e => ?_, fun r e => by cases e⟩
        cases e
        obtain ⟨b1, b2⟩ := b is rfl
        refine ⟨fun j hj => ?_, by rw [List.length_cons, List.length_cons, b2]⟩
        rcases List.mem_cons.mp hj with rfl | hj
        · exact h1.2 _ (.inl rfl)
        · exact b1 j hj
    | f i => exact ⟨h1.1, fun is e => (by cases e), fun r e => by cases e; exact ⟨fun j e => (by cases e), fun j e => by cases e; exact h1.2 _ (.inr rfl)⟩⟩
    | l => exact ⟨h1.1, fun is e => (by cases e), fun r e => by cases e; exact ⟨fun j e => (by cases e), fun j e => by cases e⟩⟩
    | s => exact ⟨h1.1, fun is e => (by cases e), fun r e => by cases e; exact ⟨fun j e => (by cases e), fun j e => by cases e⟩⟩
theorem while_ok {V : Env' → Stt → RV × Stt} {G : Env' → Stt → RG × Env' × Stt} (hV : ∀ ρ s, ρ.ok → VOk (V ρ s) s) (hG : ∀ ρ s, ρ.ok → GOk (G ρ s) s) : ∀ (m : Nat) {ρ : Env'} {s : Stt}, ρ.ok → GOk (whileF V G m ρ s) s
  | 0, ρ, s, h => ⟨SttLe.refl s, h, fun i e => by rcases e with e | e <;> cases e⟩
  | m + 1, ρ, s, h => by
    have h1 := hV ρ s h
    unfold whileF
    rcases e : V ρ s with ⟨r, s1⟩
    rw [e] at h1
    cases r with
    | w i =>
      dsimp only
      split
      · exact ⟨h1.1, h, fun i e => by rcases e with e | e <;> cases e⟩
      · have h2 := hG ρ s1 h
        rcases e2 : G ρ s1 with ⟨r2, ρ2, s2⟩
        rw [e2] at h2
        cases r2 with
        | n =>
          dsimp only
          split
          · exact ⟨h1.1.trans h2.1, h2.2.1, fun i e => by rcases e with e | e <;> cases e⟩
          · rename_i hl
            have h3 := while_ok hV hG m (ρ := ρ2) (s := ⟨s2.l - 1, s2.said⟩) h2.2.1
            exact ⟨(h1.1.trans h2.1).trans ((SttLe.count hl).trans h3.1), h3.2⟩
        | b i => exact ⟨h1.1.trans h2.1, h2.2⟩
        | f i => exact ⟨h1.1.trans h2.1, h2.2⟩
        | l => exact ⟨h1.1.trans h2.1, h2.2⟩
        | s => exact ⟨h1.1.trans h2.1, h2.2⟩
    | f i => exact ⟨h1.1, h, fun j e => by rcases e with e | e <;> cases e; exact h1.2 _ (.inr rfl)⟩
    | l => exact ⟨h1.1, h, fun j e => by rcases e with e | e <;> cases e⟩
    | s => exact ⟨h1.1, h, fun j e => by rcases e with e | e <;> cases e⟩
theorem ret_ok {r : RV} {s s1 : Stt} {ρ : Env'} (hρ : ρ.ok) (h : VOk (r, s1) s) : GOk (retV r, ρ, s1) s := ⟨h.1, hρ, fun i e => by
  cases r with
  | f j => rcases e with e | e <;> cases e; exact h.2 _ (.inr rfl)
  | w j => rcases e with e | e <;> cases e
  | l => rcases e with e | e <;> cases e
  | s => rcases e with e | e <;> cases e⟩
theorem call_ok {hs : Hds} {M : Nat} {T : Tt} {F : Sem} {deep : Nat} {x : Str} {is : List Int} {s : Stt} (hT : TtOk hs M T) (hF : SemOk hs F) (hi : ∀ i ∈ is, Wth i) : VOk (callF T F deep x is s) s := by
  unfold callF
  split
  · exact ⟨SttLe.refl s, fun i e => by rcases e with e | e <;> cases e; exact wth_neg (.inr (.inr (.inr rfl)))⟩
  · cases e : T x with
    | none => exact ⟨SttLe.refl s, fun i e => by rcases e with e | e <;> cases e⟩
    | some t =>
      obtain ⟨_, _, w, n, _, hss⟩ := hT.ok x t e
      have h := hF.g (deep + 1) (envOf t.1 is) s t.2 w n (env_ok hi) hss
      refine ⟨h.1, fun i e => ?_⟩
      dsimp only at e
      cases r : (F.g (deep + 1) (envOf t.1 is) s t.2).1 with
      | n => rw [r] at e; rcases e with e | e <;> cases e; exact ⟨by decide, by decide⟩
      | b j => rw [r] at e; rcases e with e | e <;> cases e; exact h.2.2 _ (.inl r)
      | f j => rw [r] at e; rcases e with e | e <;> cases e; exact h.2.2 _ (.inr r)
      | l => rw [r] at e; rcases e with e | e <;> cases e
      | s => rw [r] at e; rcases e with e | e <;> cases e
theorem vstep_ok {hs : Hds} {M : Nat} {T : Tt} {F : Sem} {deep m : Nat} {ρ : Env'} {s : Stt} {d : PyData} (hT : TtOk hs M T) (hF : SemOk hs F) (hρ : ρ.ok) (hd : VaP hs m d) : VOk (vStep T F deep ρ s d) s := by
  cases hd with
  | num h => exact ⟨SttLe.refl s, fun i e => by rcases e with e | e <;> cases e; exact h⟩
  | @name n y h =>
    show VOk (match ρ y with
      | some w => (.w w, s)
      | none => (.f (-3), s)) s
    cases e : ρ y with
    | none => exact ⟨SttLe.refl s, fun i e => by rcases e with e | e <;> cases e; exact wth_neg (.inr (.inr (.inl rfl)))⟩
    | some w => exact ⟨SttLe.refl s, fun i e2 => by rcases e2 with e2 | e2 <;> cases e2; exact hρ y _ e⟩
  | @op n o c d ho hc hd =>
    rw [v_op ho]
    have h1 := hF.v deep ρ s c n hρ hc
    rcases e : F.v deep ρ s c with ⟨r, s1⟩
    rw [e] at h1
    cases r with
    | w i =>
      have h2 := hF.v deep ρ s1 d n hρ hd
      dsimp only
      rcases e2 : F.v deep ρ s1 d with ⟨r2, s2⟩
      rw [e2] at h2
      cases r2 with
      | w j =>
        dsimp only
        cases e3 : opR o i j with
        | inl f => exact ⟨h1.1.trans h2.1, fun k e => by rcases e with e | e <;> cases e; exact wth_neg ((opR_f e3).imp id .inl)⟩
        | inr w => exact ⟨h1.1.trans h2.1, fun k e => by rcases e with e | e <;> cases e; exact opR_w e3⟩
      | f j => exact ⟨h1.1.trans h2.1, h2.2⟩
      | l => exact ⟨h1.1.trans h2.1, h2.2⟩
      | s => exact ⟨h1.1.trans h2.1, h2.2⟩
    | f i => exact h1
    | l => exact h1
    | s => exact h1
  | @call n x ds hx ho hds =>
    rw [v_call]
    have h1 := vals_ok (V := fun s d => F.v deep ρ s d) (ds := ds) (s := s) fun d hd s => hF.v deep ρ s d n hρ (hds d hd)
    show VOk (match valsF (fun s d => F.v deep ρ s d) s ds with
      | (.inl r, s1) => (r, s1)
      | (.inr is, s1) => callF T F deep x is s1) s
    rcases e : valsF (fun s d => F.v deep ρ s d) s ds with ⟨r, s1⟩
    rw [e] at h1
    obtain ⟨a, b, c⟩ := h1
    cases r with
    | inl r => exact ⟨a, fun i e => by rcases e with e | e; exact absurd e ((c r rfl).1 i); exact (c r rfl).2 i e⟩
    | inr is =>
      have h2 := call_ok (deep := deep) (x := x) (s := s1) hT hF (b is rfl).1
      exact ⟨a.trans h2.1, h2.2⟩
theorem one_okF {F : Sem} {deep : Nat} {o : Str} {ρ : Env'} {s : Stt} {i : Int} (hs : 0 < s.l ∨ True) (hρ : ρ.ok) (hi : Wth i) : (oneF F deep o ρ s i).2.1.ok ∧ ∀ j, (oneF F deep o ρ s i).1 = .b j ∨ (oneF F deep o ρ s i).1 = .f j → Wth j := by
  unfold oneF
  split
  · exact ⟨hρ, fun j e => by rcases e with e | e <;> cases e; exact hi⟩
  · split
    · exact ⟨hρ, fun j e => by rcases e with e | e <;> cases e; exact hi⟩
    · exact ⟨hρ, fun j e => by rcases e with e | e <;> cases e⟩
end Wr

set_option Elab.async false
set_option linter.all false
set_option maxRecDepth 100000
set_option maxHeartbeats 4000000
namespace Wr
open PySem PySem.Spec PyProof.Rows L2 Evl
/-! ### a saying, by its shape -/
section
variable {T : Tt} {F : Sem} {deep : Nat} {ρ : Env'} {s : Stt}
theorem s_one {o : Str} {a : PyData} : sStep T F deep ρ s (.tuple [.str o, a]) = match F.v deep ρ s a with
    | (.w i, s1) => oneF F deep o ρ s1 i
    | (r, s1) => (retV r, ρ, s1) := rfl
theorem s_set {a b : PyData} : sStep T F deep ρ s (.tuple [.str "set", a, b]) = match F.v deep ρ s b with
      | (.w i, s1) => (.n, putE ρ (strD a) i, s1)
      | (r, s1) => (retV r, ρ, s1) := by
  unfold sStep
  exact if_pos rfl
theorem s_whl {a b : PyData} : sStep T F deep ρ s (.tuple [.str "while", a, b]) = whileF (fun ρ s => F.v deep ρ s a) (fun ρ s => F.g deep ρ s (tupD b)) (s.l.toNat + 1) ρ s := by
  unfold sStep
  exact if_neg (show ¬ ("while" : Str) = "set" by decide)
theorem s_ite {a b c : PyData} : sStep T F deep ρ s (.tuple [.str "if", a, b, c]) = match F.v deep ρ s a with
      | (.w i, s1) => F.g deep ρ s1 (if i = 0 then tupD c else tupD b)
      | (r, s1) => (retV r, ρ, s1) := by
  unfold sStep
  exact if_pos rfl
theorem s_tri {a b c : PyData} : sStep T F deep ρ s (.tuple [.str "try", a, b, c]) = match F.g deep ρ s (tupD a) with
      | (.f i, ρ1, s1) => F.g deep (putE ρ1 (strD b) i) s1 (tupD c)
      | r => r := by
  unfold sStep
  exact if_neg (show ¬ ("try" : Str) = "if" by decide)
end
/-- with the count that was begun for it -/
def GOk1 (r : RG × Env' × Stt) (s : Stt) : Prop := (r.2.2.l ≤ s.l ∧ (0 ≤ s.l → 0 ≤ r.2.2.l) ∧ (r.2.2.said.length : Int) + r.2.2.l ≤ s.said.length + s.l + 1 ∧ ((∀ i ∈ s.said, Wth i) → ∀ i ∈ r.2.2.said, Wth i)) ∧ r.2.1.ok ∧ ∀ i, r.1 = .b i ∨ r.1 = .f i → Wth i
theorem GOk.one {r : RG × Env' × Stt} {s : Stt} (h : GOk r s) : GOk1 r s := ⟨⟨h.1.le, h.1.nn, by have := h.1.len; omega, h.1.wth⟩, h.2⟩
theorem GOk1.of {r : RG × Env' × Stt} {s s1 : Stt} (a : SttLe s s1) (h : GOk1 r s1) : GOk1 r s := ⟨⟨Int.le_trans h.1.1 a.le, fun z => h.1.2.1 (a.nn z), by have := h.1.2.2.1; have := a.len; omega, fun z => h.1.2.2.2 (a.wth z)⟩, h.2⟩
theorem GOk.of {r : RG × Env' × Stt} {s s1 : Stt} (a : SttLe s s1) (h : GOk r s1) : GOk r s := ⟨a.trans h.1, h.2⟩
theorem oneF_ok {F : Sem} {deep : Nat} {o : Str} {ρ : Env'} {s : Stt} {i : Int} (hρ : ρ.ok) (hi : Wth i) : GOk1 (oneF F deep o ρ s i) s := by
  have triv : GOk1 (.f i, ρ, s) s ∧ GOk1 (.b i, ρ, s) s := ⟨⟨⟨Int.le_refl _, id, by show (s.said.length : Int) + s.l ≤ _; omega, id⟩, hρ, fun j e => by rcases e with e | e <;> cases e; exact hi⟩, ⟨⟨Int.le_refl _, id, by show (s.said.length : Int) + s.l ≤ _; omega, id⟩, hρ, fun j e => by rcases e with e | e <;> cases e; exact hi⟩⟩
  unfold oneF
  split
  · exact triv.1
  · split
    · exact triv.2
    · refine ⟨⟨Int.le_refl _, id, ?_, fun h j hj => ?_⟩, hρ, fun j e => by rcases e with e | e <;> cases e⟩
      · show (((s.said ++ [i]).length : Nat) : Int) + s.l ≤ _
        rw [List.length_append, List.length_singleton]
        omega
      · rcases List.mem_append.mp hj with hj | hj
        · exact h j hj
        · rw [List.mem_singleton.mp hj]; exact hi
theorem sstep_ok {hs : Hds} {M : Nat} {T : Tt} {F : Sem} {deep w m : Nat} {ρ : Env'} {s : Stt} {d : PyData} (hT : TtOk hs M T) (hF : SemOk hs F) (hρ : ρ.ok) (hd : SaP hs w m d) : GOk1 (sStep T F deep ρ s d) s := by
  cases hd with
  | @set n y v hy hv =>
    rw [s_set]
    have h1 := hF.v deep ρ s v w hρ hv
    rcases e : F.v deep ρ s v with ⟨r, s1⟩
    rw [e] at h1
    cases r with
    | w i =>
      have h2 : GOk (.n, putE ρ (strD (.str y)) i, s1) s := ⟨h1.1, putE_ok hρ (h1.2 i (.inl rfl)), fun j e => by rcases e with e | e <;> cases e⟩
      exact h2.one
    | f i => exact (ret_ok hρ h1).one
    | l => exact (ret_ok hρ h1).one
    | s => exact (ret_ok hρ h1).one
  | @one n o v ho hv =>
    rw [s_one]
    have h1 := hF.v deep ρ s v w hρ hv
    rcases e : F.v deep ρ s v with ⟨r, s1⟩
    rw [e] at h1
    cases r with
    | w i => exact (oneF_ok hρ (h1.2 i (.inl rfl))).of h1.1
    | f i => exact (ret_ok hρ h1).one
    | l => exact (ret_ok hρ h1).one
    | s => exact (ret_ok hρ h1).one
  | @ite n v ss ts hv h1 h2 =>
    rw [s_ite]
    have hv1 := hF.v deep ρ s v w hρ hv
    rcases e : F.v deep ρ s v with ⟨r, s1⟩
    rw [e] at hv1
    cases r with
    | w i =>
      have h3 := hF.g deep ρ s1 (if i = 0 then ts else ss) w n hρ (by split <;> assumption)
      exact (h3.of hv1.1).one
    | f i => exact (ret_ok hρ hv1).one
    | l => exact (ret_ok hρ hv1).one
    | s => exact (ret_ok hρ hv1).one
  | @whl n v ss hv h1 =>
    rw [s_whl]
    exact (while_ok (fun ρ s h => hF.v deep ρ s v w h hv) (fun ρ s h => hF.g deep ρ s ss w n h h1) _ hρ).one
  | @tri n y ss ts hy h1 h2 =>
    rw [s_tri]
    have h3 := hF.g deep ρ s ss w n hρ h1
    show GOk1 (match F.g deep ρ s ss with
      | (.f i, ρ1, s1) => F.g deep (putE ρ1 y i) s1 ts
      | r => r) s
    rcases e : F.g deep ρ s ss with ⟨r, ρ1, s1⟩
    rw [e] at h3
    cases r with
    | f i => exact ((hF.g deep (putE ρ1 y i) s1 ts w n (putE_ok h3.2.1 (h3.2.2 i (.inr rfl))) h2).of h3.1).one
    | n => exact h3.one
    | b i => exact h3.one
    | l => exact h3.one
    | s => exact h3.one
theorem GOk1.count {r : RG × Env' × Stt} {s : Stt} (hl : ¬ s.l ≤ 0) (h : GOk1 r ⟨s.l - 1, s.said⟩) : GOk r s := by
  obtain ⟨⟨a, b, c, d⟩, h2⟩ := h
  have a : r.2.2.l ≤ s.l - 1 := a
  have c : (r.2.2.said.length : Int) + r.2.2.l ≤ s.said.length + (s.l - 1) + 1 := c
  exact ⟨⟨by omega, fun _ => b (by show 0 ≤ s.l - 1; omega), by omega, d⟩, h2⟩
theorem gstep_ok {hs : Hds} {M : Nat} {T : Tt} {F : Sem} {deep w m : Nat} (hT : TtOk hs M T) (hF : SemOk hs F) : ∀ {ds : List PyData} {ρ : Env'} {s : Stt}, ρ.ok → (∀ d ∈ ds, SaP hs w m d) → GOk (gStep T F deep ρ s ds) s
  | [], ρ, s, hρ, _ => ⟨SttLe.refl s, hρ, fun j e => by rcases e with e | e <;> cases e⟩
  | d :: ds, ρ, s, hρ, h => by
    unfold gStep
    split
    · exact ⟨SttLe.refl s, hρ, fun j e => by rcases e with e | e <;> cases e⟩
    · rename_i hl
      have h1 := (sstep_ok (deep := deep) (s := ⟨s.l - 1, s.said⟩) hT hF hρ (h d List.mem_cons_self)).count hl
      rcases e : sStep T F deep ρ ⟨s.l - 1, s.said⟩ d with ⟨r, ρ1, s1⟩
      rw [e] at h1
      cases r with
      | n => exact (gstep_ok hT hF (ds := ds) (ρ := ρ1) (s := s1) h1.2.1 fun d hd => h d (List.mem_cons_of_mem _ hd)).of h1.1
      | b i => exact h1
      | f i => exact h1
      | l => exact h1
      | s => exact h1
theorem sem_ok {hs : Hds} {M : Nat} {T : Tt} (hT : TtOk hs M T) : ∀ n, SemOk hs (sem T n)
  | 0 => ⟨fun deep ρ s d m hρ _ => ⟨SttLe.refl s, fun i e => by rcases e with e | e <;> cases e⟩, fun deep ρ s ds w m hρ _ => ⟨SttLe.refl s, hρ, fun i e => by rcases e with e | e <;> cases e⟩⟩
  | n + 1 => ⟨fun deep ρ s d m hρ h => vstep_ok hT (sem_ok hT n) hρ h, fun deep ρ s ds w m hρ h => gstep_ok hT (sem_ok hT n) hρ h⟩
/-! ### it comes to an end -/
theorem vals_end {V : Stt → PyData → RV × Stt} : ∀ {ds : List PyData} {s : Stt}, (∀ d ∈ ds, ∀ s, (V s d).1 ≠ .s) → (valsF V s ds).1 ≠ .inl .s
  | [], s, _ => fun e => by cases e
  | d :: ds, s, h => by
    have h1 := h d List.mem_cons_self s
    unfold valsF
    rcases e : V s d with ⟨r, s1⟩
    rw [e] at h1
    cases r with
    | w i =>
      have ih := vals_end (ds := ds) (s := s1) fun d hd => h d (List.mem_cons_of_mem _ hd)
      dsimp only
      rcases e2 : valsF V s1 ds with ⟨r2, s2⟩
      rw [e2] at ih
      cases r2 with
      | inl r2 => exact ih
      | inr is => exact fun e => by cases e
    | f i => exact fun e => by cases e
    | l => exact fun e => by cases e
    | s => exact absurd rfl h1
theorem while_end {V : Env' → Stt → RV × Stt} {G : Env' → Stt → RG × Env' × Stt} (hV : ∀ ρ s, ρ.ok → VOk (V ρ s) s) (hG : ∀ ρ s, ρ.ok → GOk (G ρ s) s) (eV : ∀ ρ s, ρ.ok → (V ρ s).1 ≠ .s) (eG : ∀ ρ s, ρ.ok → (G ρ s).1 ≠ .s) : ∀ (m : Nat) {ρ : Env'} {s : Stt}, ρ.ok → s.l < (m : Nat) → 0 < m → (whileF V G m ρ s).1 ≠ .s
  | 0, ρ, s, h, hm, h0 => absurd h0 (Nat.lt_irrefl 0)
  | m + 1, ρ, s, h, hm, h0 => by
    have h1 := hV ρ s h
    have k1 := eV ρ s h
    unfold whileF
    rcases e : V ρ s with ⟨r, s1⟩
    rw [e] at h1 k1
    cases r with
    | w i =>
      dsimp only
      split
      · exact fun e => by cases e
      · have h2 := hG ρ s1 h
        have k2 := eG ρ s1 h
        rcases e2 : G ρ s1 with ⟨r2, ρ2, s2⟩
        rw [e2] at h2 k2
        cases r2 with
        | n =>
          dsimp only
          split
          · exact fun e => by cases e
          · rename_i hl
            have a1 := h1.1.le
            have a2 := h2.1.le
            have a1 : s1.l ≤ s.l := a1
            have a2 : s2.l ≤ s1.l := a2
            exact while_end hV hG eV eG m (ρ := ρ2) (s := ⟨s2.l - 1, s2.said⟩) h2.2.1 (by show s2.l - 1 < (m : Nat); omega) (by omega)
        | b i => exact k2
        | f i => exact k2
        | l => exact k2
        | s => exact k2
    | f i => exact fun e => by cases e
    | l => exact fun e => by cases e
    | s => exact absurd rfl k1
theorem ret_end {r : RV} (h : r ≠ .s) (hw : ∀ i, r ≠ .w i) : retV r ≠ .s := by
  cases r with
  | w i => exact absurd rfl (hw i)
  | f i => exact fun e => by cases e
  | l => exact fun e => by cases e
  | s => exact absurd rfl h
structure SemEnd (hs : Hds) (M : Nat) (F : Sem) (n : Nat) : Prop where
  v : ∀ deep ρ s d m, deep ≤ 12 → ρ.ok → VaP hs m d → (12 - deep) * (M + 1) + m ≤ n → (F.v deep ρ s d).1 ≠ .s
  g : ∀ deep ρ s ds w m, deep ≤ 12 → ρ.ok → (∀ d ∈ ds, SaP hs w m d) → (12 - deep) * (M + 1) + w + m + 1 ≤ n → (F.g deep ρ s ds).1 ≠ .s
theorem vap_pos {hs : Hds} {m : Nat} {d : PyData} (h : VaP hs m d) : 0 < m := by cases h <;> exact Nat.succ_pos _
theorem sap_pos {hs : Hds} {w m : Nat} {d : PyData} (h : SaP hs w m d) : 0 < m := by cases h <;> exact Nat.succ_pos _
theorem out_end {r : RG} (h : r ≠ .s) : outG r ≠ .s := by
  cases r with
  | n => exact fun e => by cases e
  | b i => exact fun e => by cases e
  | f i => exact fun e => by cases e
  | l => exact fun e => by cases e
  | s => exact absurd rfl h
theorem vstep_end {hs : Hds} {M n : Nat} {T : Tt} {F : Sem} (hT : TtOk hs M T) (hF : SemOk hs F) (E : SemEnd hs (M + 1) F n) {deep m : Nat} {ρ : Env'} {s : Stt} {d : PyData} (h12 : deep ≤ 12) (hρ : ρ.ok) (hd : VaP hs m d) (hn : (12 - deep) * (M + 1 + 1) + m ≤ n + 1) : (vStep T F deep ρ s d).1 ≠ .s := by
  cases hd with
  | num h => exact fun e => by cases e
  | @name k y h =>
    show (match ρ y with
      | some w => ((.w w : RV), s)
      | none => (.f (-3), s)).1 ≠ .s
    cases ρ y <;> exact fun e => by cases e
  | @op k o c d ho hc hd =>
    rw [v_op ho]
    have h1 := hF.v deep ρ s c k hρ hc
    have k1 := E.v deep ρ s c k h12 hρ hc (by omega)
    rcases e : F.v deep ρ s c with ⟨r, s1⟩
    rw [e] at h1 k1
    cases r with
    | w i =>
      have k2 := E.v deep ρ s1 d k h12 hρ hd (by omega)
      dsimp only
      rcases e2 : F.v deep ρ s1 d with ⟨r2, s2⟩
      rw [e2] at k2
      cases r2 with
      | w j =>
        dsimp only
        cases opR o i j <;> exact fun e => by cases e
      | f j => exact k2
      | l => exact k2
      | s => exact k2
    | f i => exact k1
    | l => exact k1
    | s => exact k1
  | @call k x ds hx ho hds =>
    rw [v_call]
    have h1 := vals_ok (V := fun s d => F.v deep ρ s d) (ds := ds) (s := s) fun d hd s => hF.v deep ρ s d k hρ (hds d hd)
    have k1 := vals_end (V := fun s d => F.v deep ρ s d) (ds := ds) (s := s) fun d hd s => E.v deep ρ s d k h12 hρ (hds d hd) (by omega)
    show (match valsF (fun s d => F.v deep ρ s d) s ds with
      | (.inl r, s1) => (r, s1)
      | (.inr is, s1) => callF T F deep x is s1).1 ≠ .s
    rcases e : valsF (fun s d => F.v deep ρ s d) s ds with ⟨r, s1⟩
    rw [e] at h1 k1
    cases r with
    | inl r => exact fun e => k1 (by rw [← e])
    | inr is =>
      obtain ⟨_, b, _⟩ := h1
      dsimp only
      unfold callF
      split
      · exact fun e => by cases e
      · rename_i hd12
        obtain ⟨t, et, _⟩ := hT.at_ x _ hx
        rw [et]
        obtain ⟨_, _, w, m, hM, hss⟩ := hT.ok x t et
        refine out_end (E.g (deep + 1) (envOf t.1 is) s1 t.2 w m (by omega) (env_ok (b is rfl).1) hss ?_)
        have e1 : 12 - deep = (12 - (deep + 1)) + 1 := by omega
        rw [e1, Nat.succ_mul] at hn
        omega
theorem sstep_end {hs : Hds} {M n : Nat} {T : Tt} {F : Sem} (hT : TtOk hs M T) (hF : SemOk hs F) (E : SemEnd hs (M + 1) F n) {deep w m : Nat} {ρ : Env'} {s : Stt} {d : PyData} (h12 : deep ≤ 12) (hρ : ρ.ok) (hd : SaP hs w m d) (hn : (12 - deep) * (M + 1 + 1) + w + m + 1 ≤ n + 1) : (sStep T F deep ρ s d).1 ≠ .s := by
  cases hd with
  | @set k y v hy hv =>
    rw [s_set]
    have k1 := E.v deep ρ s v w h12 hρ hv (by omega)
    rcases e : F.v deep ρ s v with ⟨r, s1⟩
    rw [e] at k1
    cases r with
    | w i => exact fun e => by cases e
    | f i => exact fun e => by cases e
    | l => exact fun e => by cases e
    | s => exact absurd rfl k1
  | @one k o v ho hv =>
    rw [s_one]
    have k1 := E.v deep ρ s v w h12 hρ hv (by omega)
    rcases e : F.v deep ρ s v with ⟨r, s1⟩
    rw [e] at k1
    cases r with
    | w i =>
      show (oneF F deep o ρ s1 i).1 ≠ .s
      unfold oneF
      split
      · exact fun e => by cases e
      · split <;> exact fun e => by cases e
    | f i => exact fun e => by cases e
    | l => exact fun e => by cases e
    | s => exact absurd rfl k1
  | @ite k v ss ts hv h1 h2 =>
    rw [s_ite]
    have k1 := E.v deep ρ s v w h12 hρ hv (by omega)
    rcases e : F.v deep ρ s v with ⟨r, s1⟩
    rw [e] at k1
    cases r with
    | w i => exact E.g deep ρ s1 (if i = 0 then ts else ss) w k h12 hρ (by split <;> assumption) (by omega)
    | f i => exact fun e => by cases e
    | l => exact fun e => by cases e
    | s => exact absurd rfl k1
  | @whl k v ss hv h1 =>
    rw [s_whl]
    refine while_end (fun ρ s h => hF.v deep ρ s v w h hv) (fun ρ s h => hF.g deep ρ s ss w k h h1) (fun ρ s h => E.v deep ρ s v w h12 h hv (by omega)) (fun ρ s h => E.g deep ρ s ss w k h12 h h1 (by omega)) _ hρ ?_ (Nat.succ_pos _)
    show s.l < ((s.l.toNat + 1 : Nat) : Int)
    omega
  | @tri k y ss ts hy h1 h2 =>
    rw [s_tri]
    have h3 := hF.g deep ρ s ss w k hρ h1
    have k3 := E.g deep ρ s ss w k h12 hρ h1 (by omega)
    show (match F.g deep ρ s ss with
      | (.f i, ρ1, s1) => F.g deep (putE ρ1 y i) s1 ts
      | r => r).1 ≠ .s
    rcases e : F.g deep ρ s ss with ⟨r, ρ1, s1⟩
    rw [e] at h3 k3
    cases r with
    | f i => exact E.g deep (putE ρ1 y i) s1 ts w k h12 (putE_ok h3.2.1 (h3.2.2 i (.inr rfl))) h2 (by omega)
    | n => exact k3
    | b i => exact k3
    | l => exact k3
    | s => exact k3
theorem gstep_end {hs : Hds} {M n : Nat} {T : Tt} {F : Sem} (hT : TtOk hs M T) (hF : SemOk hs F) (E : SemEnd hs (M + 1) F n) {deep w m : Nat} (h12 : deep ≤ 12) (hn : (12 - deep) * (M + 1 + 1) + w + m + 1 ≤ n + 1) : ∀ {ds : List PyData} {ρ : Env'} {s : Stt}, ρ.ok → (∀ d ∈ ds, SaP hs w m d) → (gStep T F deep ρ s ds).1 ≠ .s
  | [], ρ, s, hρ, _ => fun e => by cases e
  | d :: ds, ρ, s, hρ, h => by
    unfold gStep
    split
    · exact fun e => by cases e
    · rename_i hl
      have h1 := (sstep_ok (deep := deep) (s := ⟨s.l - 1, s.said⟩) hT hF hρ (h d List.mem_cons_self)).count hl
      have k1 := sstep_end (s := ⟨s.l - 1, s.said⟩) hT hF E h12 hρ (h d List.mem_cons_self) hn
      rcases e : sStep T F deep ρ ⟨s.l - 1, s.said⟩ d with ⟨r, ρ1, s1⟩
      rw [e] at h1 k1
      cases r with
      | n => exact gstep_end hT hF E h12 hn (ds := ds) (ρ := ρ1) (s := s1) h1.2.1 fun d hd => h d (List.mem_cons_of_mem _ hd)
      | b i => exact k1
      | f i => exact k1
      | l => exact k1
      | s => exact k1
theorem sem_end {hs : Hds} {M : Nat} {T : Tt} (hT : TtOk hs M T) : ∀ n, SemEnd hs (M + 1) (sem T n) n
  | 0 => ⟨fun deep ρ s d m _ _ h hn => absurd (vap_pos h) (by omega), fun deep ρ s ds w m _ _ _ hn => absurd hn (by omega)⟩
  | n + 1 => ⟨fun deep ρ s d m h12 hρ h hn => vstep_end hT (sem_ok hT n) (sem_end hT n) h12 hρ h hn, fun deep ρ s ds w m h12 hρ h hn => gstep_end hT (sem_ok hT n) (sem_end hT n) h12 hn hρ h⟩
end Wr

set_option Elab.async false
set_option linter.all false
set_option maxRecDepth 100000
set_option maxHeartbeats 4000000
namespace Wr
open PySem PySem.Spec PyProof.Rows L2 Evl
/-! ### errors whose context is None -/
section
variable {X : Cx} {o e : Expr} {es : List Expr} {to te : TE} {ta : TA} {f B : Str} {p p' p1 p2 pos : Pos} {tl : List Value} {Bn newId initId Bs : String}
/-- C(e, ..) as an exception that is raised -/
theorem pmk_tN {CX : CXT} {x : Str} {C fI : Addr} {k : Nat} {fd : FuncData} {ps : List Str} {sp : Sp} (T : OexT X.K C tl Bn newId) (iC : PySem.W.findIn X.K (.ref C) "__init__" = some (some (.ref fI))) (tI : PySem.W.typeIn X.K (.ref fI) = some (.type "function"))
    (G : FnOk X.prog X.w X.K X.mg X.base CX k fI fd ps sp) (hr : Room (k + 1) X.A) (hb : Binds X.K fd ps []) (hx : Passes CX X (fun _ _ _ => False)) (hg : Gl X x) (hm : X.mg x = some (.ref C)) (ha : PA X (e :: es) ta)
    (hdb : (x == ("__debug__" : Str)) = false := by decide) (he : starEach (e :: es) X.env = (false, eval e X.env) :: starEach es X.env := by rfl) (hpl : (backTo pos (starEach es X.env)).any (·.1) = false := by rfl) :
    L2N.PMk X (.Call (.Name x p) (e :: es) [] pos) (tMkO C sp [] ta) := by
  intro pins s σ H Q I h
  obtain ⟨nm, q, N, bs, sn, sub, ab, col, dd, k0, k1, k2, k3, k5, hC⟩ := T.cls
  refine wpAny_Call_Name_kw (ld_glob I hg hm (PySem.W.callWith_K (h₀ := X.base) I.ok.mod.kin T.kC (thn (ha.run pos pins s σ H _ I h) fun us s1 ⟨vs, H1, I1, r1, hz, q1⟩ => ⟨I1.kIn, ?_⟩) he hpl) hdb)
  show wpAny _ _ (call (.ref C) us) _ _ _
  obtain ⟨hp, g, dr, tk, os⟩ := s1
  have up : hp.objs.size ≤ hp.objs.size + 1 := Nat.le_succ _
  have free : H1 (hp.objs.size + 1) = none := I1.hok.fresh up
  have hq := q1 _ free
  rw [List.append_nil] at hq
  have stay : ∀ c u, hp.get? c = some u → ((hp.push (PySem.W.kdv_tup us)).push (PySem.HandSPX.excO C hp.objs.size)).get? c = some u := fun c u z => Heap.get?_push_of_some _ (Heap.get?_push_of_some _ z)
  have at1 : ((hp.push (PySem.W.kdv_tup us)).push (PySem.HandSPX.excO C hp.objs.size)).get? (hp.objs.size + 1) = some (PySem.HandSPX.excO C hp.objs.size) := by heap_get
  have I2 : Inv X pins σ (upd H1 (hp.objs.size + 1) (exo (hp.objs.size + 1) C none)) ⟨(hp.push (PySem.W.kdv_tup us)).push (PySem.HandSPX.excO C hp.objs.size), g, dr, tk, os⟩ := I1.laid (t' := tk) stay up (exo_ok at1)
  have r2 : Vals (V.ref (hp.objs.size + 1) :: vs) (Value.ref (hp.objs.size + 1) :: us) := .cons rfl r1
  have hl : (Value.ref (hp.objs.size + 1) :: us ++ []).length = ps.length := by
    rw [List.append_nil, ← r2.length]
    exact G.len _ _ _ _ hq
  have hus : us.length ≤ sizeLine := by
    rw [← Paired.length r1, sizeLine_eq]
    omega
  have hb2 := hb ⟨(hp.push (PySem.W.kdv_tup us)).push (PySem.HandSPX.excO C hp.objs.size), g, dr, tk, os⟩ (Value.ref (hp.objs.size + 1) :: us) I2.kIn hl
  rw [List.append_nil] at hb2
  refine wpAny_call (mk_call T.tail (I1.kIn _ _ hC) hus (PySem.W.looks_findIn I1.kIn iC) (fun self => PySem.W.bind_fn I1.kIn self tI) (codeAny_mono (G.run _ X.stack _ _ ⟨Value.ref (hp.objs.size + 1) :: us, []⟩ _ _ _ (fun _ _ _ => False) (hr.make C us []) (I2.env0.make C us []) hb2 r2 hq) fun r s' hq' => ?_))
  rcases r with er | fl
  · exact hx pins σ _ _ er s' I2 hq'
  rcases fl with _ | _ | _ | u
  all_goals try exact False.elim hq'
  obtain ⟨v, H2, os2, bare2, un2, hok2, rv, ev, d, fs, ea, ed, hd1, q2⟩ := hq'
  subst ev
  obtain ⟨h2, g2, d2, t2, os'⟩ := s'
  obtain ⟨t0, G2, J, kG, nG, oG, zG⟩ := mk_end0 (d2 := d2) (t2 := t2) I1 up stay un2 hok2 os2 bare2 ea ed hd1
  exact ⟨rv, _, _, _, ⟨G2, g2, d2, t2, os'⟩, _, .ref C, some d, rfl, J, kG, nG, oG, ⟨rfl, rfl, fun vs e => by cases e; rfl⟩, rfl, rfl, zG, rfl, bare2, raises_own T.exC T.tyC, q2⟩
end
section
variable {P : Program} {w : World} {K : PySem.W.Frag} {mg : Str → Option Value} {base : Heap}
theorem okN {x qual : Str} {st : Stmt} {f : Addr} {fd : FuncData} {N ps : List Str} {k : Nat} {sp : Sp} (F : Fun K x qual st f fd) (S : FnScope N ps (defScope st)) (len : ∀ vs H Q E, sp vs H Q E → vs.length = ps.length)
    (hbody : ∀ (cdv : Value) (A : Around) (outer : List Env) (s : Shared) (H : Hp) (vs : List V) (Q : VK) (E : XK), Room k (A.deeper (envOfC qual (defScope st) s.heap.objs.size f cdv)) → sp vs H Q E →
      ∃ t, PSs (cxOf (L2N.CX P w) P w K mg base N qual (defScope st) f cdv A outer s H E) (defBody st) t ∧ t { nx := fun _ H' => Q .non H', rt := Q } (start N vs) H) : FnOk P w K mg base (L2N.CX P w) (k + 1) f fd ps sp := by
  obtain ⟨oc, od, kV, doc, pm, an, cdv, ct, osl, rfl, lk, hcd⟩ := F.ex
  exact fn_of lk hcd S len fun A outer s H vs Q E hr hsp => hbody cdv A outer s H vs Q E hr hsp
end
/-! ### two clauses 'except x as n' -/
/-- an exception on the ground, ahead of the clauses -/
structure Ld (X : Cx) (pins : List (Addr × Obj)) (a : Addr) (B : Heap) (σ : L2.St) (H : Hp) (sI s : Shared) (cls : Value) (d : Option Addr) : Prop where
  J : L2.Inv X pins σ H sI
  nb : ∀ b o, sI.heap.get? b = some o → b ∉ frs X.stack → B.get? b = some o
  up : sI.heap.UpToSlots s.heap
  fl : HandSPX.FlyingZ B (X.env :: X.outer) a (L2N.Zn cls d) s.heap
  na : H a = none
  os : s.os = sI.os
  ag : AllBare s.gens
/-- what a clause makes of it -/
def wCl (i : Nat) (ts : Addr → Value → Option Addr → TS) (D : Ends) (cls : Value) (d : Option Addr) (σ : L2.St) (H : Hp) : Prop := ∀ a, H a = none → ts a cls d { nx := fun σ' H' => D.nx (σ'.set i none) H', rt := D.rt, bk := fun σ' H' => D.bk (σ'.set i none) H', ct := fun σ' H' => D.ct (σ'.set i none) H' } (σ.set i (some (.ref a))) H
section
variable {X : Cx} {pins : List (Addr × Obj)} {a : Addr} {B : Heap} {σ : L2.St} {H : Hp} {sI s : Shared} {cls : Value} {d : Option Addr} {x n : Str} {c : Value} {i : Nat} {suite : List Stmt} {b₀ : Stmt} {np pos' : Pos} {ts : Addr → Value → Option Addr → TS} {more : List ExceptHandler} {D : Ends}
theorem Ld.no (L : Ld X pins a B σ H sI s cls d) (hf : X.env.frame = some X.env.locals) : ∃ oe vs, s.heap.get? a = some oe ∧ L2N.Zn cls d oe ∧ oe.data = .fields vs ∧ a ≠ X.env.locals ∧ a ∉ X.fs := by
  obtain ⟨oe, vs, e, z, dd⟩ := L.fl.there
  have nfr : a ∉ frs (X.env :: X.outer) := fun hm => by
    obtain ⟨_, o', e', hnf⟩ := L.fl.2.2.1.mem hm
    rw [e] at e'
    cases e'
    exact hnf _ dd
  exact ⟨oe, vs, e, z, dd, fun y => nfr (List.mem_filterMap.mpr ⟨X.env, List.mem_cons_self, y ▸ hf⟩), fun hm => let ⟨e, he, q⟩ := List.mem_filterMap.mp hm; nfr (List.mem_filterMap.mpr ⟨e, List.mem_cons_of_mem _ he, q⟩)⟩
theorem Ld.eval (L : Ld X pins a B σ H sI s cls d) (hf : X.env.frame = some X.env.locals) (hc : Names X x c) {Q : Value → Shared → Prop} {E : Value → Shared → Prop} (q : Q c s) : wpAny (model X.prog X.w) (X.A.mark (some (.ref a))) (eval (.Name x np) X.env) Q E s := by
  obtain ⟨oe, vs, e, z, dd, nL, nF⟩ := L.no hf
  have S := (L.J.landed L.nb L.fl.1 L.up L.os L.ag).suite e dd L.na nL nF
  rcases hc with ⟨hg, hdb, hm | ⟨hm, hv, hnn⟩⟩
  · exact ld_glob (X := X.suite a ((a, oe) :: (X.pn ++ pins))) S hg hm q hdb
  · exact ld_blt (X := X.suite a ((a, oe) :: (X.pn ++ pins))) S hg hm hv q hnn hdb
theorem Ld.match (L : Ld X pins a B σ H sI s cls d) (hf : X.env.frame = some X.env.locals) {k : Bool} (hk : PySem.W.exmOne X.K cls c = some k) {A : Around} {Q : Bool → Shared → Prop} {E : Value → Shared → Prop} (q : Q k s) : wpAny (model X.prog X.w) A (excMatches (.ref a) c) Q E s := by
  obtain ⟨oe, vs, e, z, dd, nL, nF⟩ := L.no hf
  have J := L.J.landed L.nb L.fl.1 L.up L.os L.ag
  have lt : PySem.W.Looks (model X.prog X.w) s.heap (typeOf (.ref a)) cls := fun A Q E s k q => wpAny_typeOf_ref (k _ _ e) (by rw [z.1]; exact q)
  exact (PySem.W.exm_one (M := model X.prog X.w) J.kIn lt hk).here q
/-- the clause doesn't name it -/
theorem Ld.pass {on : Option Str} (L : Ld X pins a B σ H sI s cls d) (hf : X.env.frame = some X.env.locals) (hc : Names X x c) (hk : PySem.W.exmOne X.K cls c = some false) {Q : Flow → Shared → Prop} {E : Value → Shared → Prop}
    (h : wpAny (model X.prog X.w) X.A (handleBy (.ref a) X.env more) Q E s) : wpAny (model X.prog X.w) X.A (handleBy (.ref a) X.env (.ExceptHandler (some (.Name x np)) on (b₀ :: suite) pos' :: more)) Q E s :=
  wpAny_handleBy_cons (codeAny_handlers_test (L.eval hf hc (L.match hf hk h))) (by intro q; cases q)
/-- the clause takes it, without a name -/
theorem Ld.takeN (L : Ld X pins a B σ H sI s cls d) (hf : X.env.frame = some X.env.locals) (hc : Names X x c) (hk : PySem.W.exmOne X.K cls c = some true)
    (hsu : ∀ (a : Addr) (oe : Obj) (cls : Value) (d : Option Addr) (pn : List (Addr × Obj)), L2N.Zn cls d oe → (∃ vs, oe.data = .fields vs) → PSs (X.suite a ((a, oe) :: pn)) (b₀ :: suite) (ts a cls d)) (h : ∀ a, H a = none → ts a cls d D σ H) :
    wpAny (model X.prog X.w) X.A (handleBy (.ref a) X.env (.ExceptHandler (some (.Name x np)) none (b₀ :: suite) pos' :: more)) (SP X pins D) X.xe s := by
  refine wpAny_handleBy_cons (codeAny_handlers_test (L.eval hf hc (L.match hf hk (codeAny_handlers_suite (HandSPX.lands_againZ L.fl fun h4 fl4 up4 => ?_))))) (by intro q; cases q)
  have L4 : Ld X pins a B σ H sI { s with heap := h4 } cls d := ⟨L.J, L.nb, L.up.trans up4, fl4, L.na, L.os, L.ag⟩
  obtain ⟨oe, vs, e, z, dd, nL, nF⟩ := L4.no hf
  have S := (L4.J.landed L4.nb L4.fl.1 L4.up L4.os L4.ag).suite e dd L4.na nL nF
  have okX := L.J.ok
  refine wpAny_mono ((hsu a oe cls d (X.pn ++ pins) z ⟨_, dd⟩).run [] _ σ H D S (h a L.na)) (fun f s6 hsp => ?_) (fun _ _ z => False.elim z)
  rcases f with _ | _ | _ | u
  all_goals first
    | (obtain ⟨v6, σ6, H6, S6, r6, q6⟩ := hsp; exact ⟨_, _, _, S6.unsuite okX, r6, q6⟩)
    | (obtain ⟨σ6, H6, S6, q6⟩ := hsp; exact ⟨_, _, S6.unsuite okX, q6⟩)
/-- the clause takes it -/
theorem Ld.take (L : Ld X pins a B σ H sI s cls d) (hf : X.env.frame = some X.env.locals) (hN : X.N.Nodup) (hi : X.N[i]? = some n) (hln : X.env.kindOf n = some .local) (hc : Names X x c) (hk : PySem.W.exmOne X.K cls c = some true)
    (hsu : ∀ (a : Addr) (oe : Obj) (cls : Value) (d : Option Addr) (pn : List (Addr × Obj)), L2N.Zn cls d oe → (∃ vs, oe.data = .fields vs) → PSs (X.suite a ((a, oe) :: pn)) (b₀ :: suite) (ts a cls d)) (h : wCl i ts D cls d σ H) :
    wpAny (model X.prog X.w) X.A (handleBy (.ref a) X.env (.ExceptHandler (some (.Name x np)) (some n) (b₀ :: suite) pos' :: more)) (SP X pins D) X.xe s := by
  refine wpAny_handleBy_cons (codeAny_handlers_test (L.eval hf hc (L.match hf hk (codeAny_handlers_suite_as (HandSPX.lands_againZ L.fl fun h4 fl4 up4 => ?_))))) (by intro q; cases q)
  have L4 : Ld X pins a B σ H sI { s with heap := h4 } cls d := ⟨L.J, L.nb, L.up.trans up4, fl4, L.na, L.os, L.ag⟩
  obtain ⟨oe, vs, e, z, dd, nL, nF⟩ := L4.no hf
  have S := (L4.J.landed L4.nb L4.fl.1 L4.up L4.os L4.ag).suite e dd L4.na nL nF
  have okX := L.J.ok
  refine store_ok (X := X.suite a ((a, oe) :: (X.pn ++ pins))) (v := .ref a) S hN hi (.inl hln) rfl (fun s5 S5 => wpAny_mono ((hsu a oe cls d (X.pn ++ pins) z ⟨_, dd⟩).run [] s5 _ H _ S5 (h a L.na)) (fun f s6 hsp => ?_) (fun _ _ z => False.elim z)) (.inr hln)
  have fin : ∀ {σ6 : L2.St} {H6 : Hp} {Q : Shared → Prop}, L2.Inv (X.suite a ((a, oe) :: (X.pn ++ pins))) [] σ6 H6 s6 → (∀ s7, L2.Inv X pins (σ6.set i none) H6 s7 → Q s7) → wpAny (model X.prog X.w) X.A (do bindName X.env n .none; unbindBehindTheSuite X.env n pos') (fun _ s7 => Q s7) X.xe s6 := fun {σ6 H6 Q} S6 hq => gone_ok (S6.unsuite okX) hN hi hln hq
  rcases f with _ | _ | _ | u
  all_goals first
    | (obtain ⟨v6, σ6, H6, S6, r6, q6⟩ := hsp; exact fin S6 fun s7 J7 => ⟨_, _, _, J7, r6, q6⟩)
    | (obtain ⟨σ6, H6, S6, q6⟩ := hsp; exact fin S6 fun s7 J7 => ⟨_, _, J7, q6⟩)
end
/-- clauses, each with its class, the slot of its name or none, its suite -/
abbrev ClL := List (Value × Option Nat × (Addr → Value → Option Addr → TS))
def wOne (oi : Option Nat) (ts : Addr → Value → Option Addr → TS) (D : Ends) (cls : Value) (d : Option Addr) (σ : L2.St) (H : Hp) : Prop := match oi with
  | some i => wCl i ts D cls d σ H
  | none => ∀ a, H a = none → ts a cls d D σ H
def wClz (K : PySem.W.Frag) (D : Ends) : ClL → WX
  | [] => fun _ _ _ _ => False
  | (c, oi, ts) :: r => fun cls d σ H => (PySem.W.exmOne K cls c = some true ∧ wOne oi ts D cls d σ H) ∨ (PySem.W.exmOne K cls c = some false ∧ wClz K D r cls d σ H)
inductive Clz (X : Cx) : List ExceptHandler → ClL → Prop
  | nil : Clz X [] []
  | named {x n : Str} {c : Value} {i : Nat} {suite : List Stmt} {b₀ : Stmt} {np pos' : Pos} {ts : Addr → Value → Option Addr → TS} {hds : List ExceptHandler} {l : ClL} (hc : Names X x c) (hi : X.N[i]? = some n) (hln : X.env.kindOf n = some .local)
      (hsu : ∀ (a : Addr) (oe : Obj) (cls : Value) (d : Option Addr) (pn : List (Addr × Obj)), L2N.Zn cls d oe → (∃ vs, oe.data = .fields vs) → PSs (X.suite a ((a, oe) :: pn)) (b₀ :: suite) (ts a cls d)) (r : Clz X hds l) :
      Clz X (.ExceptHandler (some (.Name x np)) (some n) (b₀ :: suite) pos' :: hds) ((c, some i, ts) :: l)
  | bare {x : Str} {c : Value} {suite : List Stmt} {b₀ : Stmt} {np pos' : Pos} {ts : Addr → Value → Option Addr → TS} {hds : List ExceptHandler} {l : ClL} (hc : Names X x c)
      (hsu : ∀ (a : Addr) (oe : Obj) (cls : Value) (d : Option Addr) (pn : List (Addr × Obj)), L2N.Zn cls d oe → (∃ vs, oe.data = .fields vs) → PSs (X.suite a ((a, oe) :: pn)) (b₀ :: suite) (ts a cls d)) (r : Clz X hds l) :
      Clz X (.ExceptHandler (some (.Name x np)) none (b₀ :: suite) pos' :: hds) ((c, none, ts) :: l)
theorem Ld.go {X : Cx} {pins : List (Addr × Obj)} {a : Addr} {B : Heap} {σ : L2.St} {H : Hp} {sI s : Shared} {cls : Value} {d : Option Addr} {D : Ends} (L : Ld X pins a B σ H sI s cls d) (hf : X.env.frame = some X.env.locals) (hN : X.N.Nodup) {hds : List ExceptHandler} {l : ClL} (C : Clz X hds l) (w : wClz X.K D l cls d σ H) :
    wpAny (model X.prog X.w) X.A (handleBy (.ref a) X.env hds) (SP X pins D) X.xe s := by
  induction C with
  | nil => exact w.elim
  | named hc hi hln hsu r ih =>
    rcases w with ⟨hk, hw⟩ | ⟨hk, hw⟩
    · exact L.take hf hN hi hln hc hk hsu hw
    · exact L.pass hf hc hk (ih hw)
  | bare hc hsu r ih =>
    rcases w with ⟨hk, hw⟩ | ⟨hk, hw⟩
    · exact L.takeN hf hc hk hsu hw
    · exact L.pass hf hc hk (ih hw)
section
variable {X : Cx} {body : List Stmt} {h₀ : ExceptHandler} {hds : List ExceptHandler} {l : ClL} {pos : Pos} {tb : WX → TS}
theorem ps_try_cl (hst : X.stack = X.env :: X.outer) (hf : X.env.frame = some X.env.locals) (hN : X.N.Nodup)
    (hb : ∀ (W : WX) (pn : List (Addr × Obj)) (xe : Value → Shared → Prop), L2N.Takes (X.tr pn xe) W → PassesOwn (model X.prog X.w) X.A X.env xe → PSs (X.tr pn xe) body (tb W)) (C : Clz X (h₀ :: hds) l) :
    PS X (.Try body (h₀ :: hds) [] [] pos) (fun D σ H => tb (wClz X.K D l) D σ H) := by
  refine ⟨fun pins s σ H D I h0 => ?_⟩
  have okX := I.ok
  have hfr : X.A.frames = some (X.env :: X.outer) := by rw [okX.frames, hst]
  refine wpAny_Try_except (wpAny_mono ((hb (wClz X.K D l) (X.pn ++ pins) (fun e s₁ => wpAny (model X.prog X.w) X.A (noteFrame e X.env) (fun _ s₂ => wpAny (model X.prog X.w) X.A (setFlight e none) (fun _ s₃ => wpAny (model X.prog X.w) X.A (handleBy e X.env (h₀ :: hds)) (SP X pins D) X.xe s₃) X.xe s₂) X.xe s₁) (fun u s' xx => ?_) PassesOwn.looking).run [] s σ H D (I.toTry _) h0) (fun f s1 hsp => ?_) (fun e s1 he => he))
  · obtain ⟨a, B, sI, pins', σ', H', cls, d, rfl, J', nb, up, sky, na, os, ag, w⟩ := xx
    have J : L2.Inv X pins σ' H' sI := J'.ofTry okX
    have sky' : Sky B (X.env :: X.outer) a (L2N.Zn cls d) X.env.locals s'.heap := hst ▸ sky
    show wpAny (model X.prog X.w) X.A (noteFrame (.ref a) X.env) _ _ _
    refine L2N.Sky.land L2N.Zn.steady hfr hf sky' fun h3 fl3 up3 => ?_
    have L : Ld X pins a B σ' H' sI { s' with heap := h3 } cls d := ⟨J, nb, up.trans up3, fl3, na, os, ag⟩
    exact L.go hf hN C w
  · rcases f with _ | _ | _ | u
    all_goals first
      | (obtain ⟨v, σ', H', J', r, q⟩ := hsp; exact ⟨v, σ', H', J'.ofTry okX, r, q⟩)
      | (obtain ⟨σ', H', J', q⟩ := hsp; exact wpAny_execs_nil ⟨σ', H', J'.ofTry okX, q⟩)
      | (obtain ⟨σ', H', J', q⟩ := hsp; exact ⟨σ', H', J'.ofTry okX, q⟩)
end
end Wr

set_option Elab.async false
set_option linter.all false
set_option maxRecDepth 100000
set_option maxHeartbeats 4000000
namespace Wr
open PySem PySem.Spec PyProof.Rows L2 Evl
/-! ### list(zip(a, b)): a tuple and a tuple or a list -/
/-- what stands at l: a tuple where t, else a list -/
def sqT (t : Bool) : String := if t = true then "tuple" else "list"
def sqI (t : Bool) : String := if t = true then "tuple_iterator" else "list_iterator"
def AtSq (t : Bool) (h : Heap) (l : Addr) (xs : Array Value) : Prop := match t with
  | true => h.IsTuple l xs
  | false => h.IsList l xs
def AtIt (t : Bool) (h : Heap) (it l : Addr) (i : Nat) : Prop := ∃ o, h.get? it = some o ∧ o.cls = .type (sqI t) ∧ o.data = .fields #[.ref l, .int i 0]
abbrev itO (t : Bool) (l : Addr) : Obj := { cls := .type (sqI t), data := .fields #[.ref l, .int 0 0] }
def DrSt (t : Bool) (it l : Addr) (xs : Array Value) (i : Nat) (h : Heap) : Prop := AtIt t h it l i ∧ AtSq t h l xs
section
variable {prog : Program} {w : World} {A : Around} {E : Value → Shared → Prop} {s : Shared}
theorem sq_draws (hh : A.handled = none) (t : Bool) (it l : Addr) (ne : l ≠ it) (xs : Array Value) : Draws prog w A it [it, l] xs.size (fun i v => xs[i]? = some v) (DrSt t it l xs) := by
  cases t with
  | true => exact Draws.tuple hh it l ne xs
  | false => exact Draws.list hh it l ne xs
theorem sq_iter {t : Bool} {l : Addr} {xs : Array Value} {Q : Value → Shared → Prop} (hl : AtSq t s.heap l xs) (q : Q (.ref s.heap.objs.size) { s with heap := s.heap.push (itO t l) }) : wpAny (model prog w) A (pyIter (.ref l)) Q E s := by
  cases t with
  | true => exact wpAny_pyIter_tuple hl q
  | false => exact wpAny_pyIter_list hl q
theorem AtSq.up {t : Bool} {h h' : Heap} {l : Addr} {xs : Array Value} (hl : AtSq t h l xs) (k : ∀ o, h.get? l = some o → h'.get? l = some o) : AtSq t h' l xs := by
  cases t with
  | true => exact (show h'.IsTuple l xs from let ⟨o, ho, r⟩ := (show h.IsTuple l xs from hl); ⟨o, k o ho, r⟩)
  | false => exact (show h'.IsList l xs from let ⟨o, ho, r⟩ := (show h.IsList l xs from hl); ⟨o, k o ho, r⟩)
theorem AtSq.lt {t : Bool} {h : Heap} {l : Addr} {xs : Array Value} (hl : AtSq t h l xs) : l < h.objs.size := by
  cases t with
  | true => obtain ⟨o, ho, _⟩ := (show h.IsTuple l xs from hl); exact Heap.lt_size ho
  | false => obtain ⟨o, ho, _⟩ := (show h.IsList l xs from hl); exact Heap.lt_size ho
/-! #### the zip is made -/
def zP1 (h : Heap) (t1 : Bool) (l1 : Addr) : Heap := h.push (itO t1 l1)
def zP2 (h : Heap) (t1 t2 : Bool) (l1 l2 : Addr) : Heap := (zP1 h t1 l1).push (itO t2 l2)
def zP3 (h : Heap) (t1 t2 : Bool) (l1 l2 : Addr) : Heap := (zP2 h t1 t2 l1 l2).push { cls := .type "tuple", data := .seq #[.ref h.objs.size, .ref (zP1 h t1 l1).objs.size] }
def zP4 (h : Heap) (t1 t2 : Bool) (l1 l2 : Addr) : Heap := (zP3 h t1 t2 l1 l2).push { cls := .type "tuple", data := .seq #[.none, .none] }
def zP5 (h : Heap) (t1 t2 : Bool) (l1 l2 : Addr) : Heap := (zP4 h t1 t2 l1 l2).push { cls := .type "zip", data := .fields #[.none, .bool false, .bool false, .ref (zP2 h t1 t2 l1 l2).objs.size, .ref (zP3 h t1 t2 l1 l2).objs.size] }
theorem zl_new (t1 t2 : Bool) (l1 l2 : Addr) (xs ys : Array Value) :
    Meets (Builtin.«zip.__new__» ⟨[.type "zip", .ref l1, .ref l2], []⟩) (fun _ R s => AtSq t1 s.heap l1 xs ∧ AtSq t2 s.heap l2 ys ∧ R (.ok (.ret (.ref (zP4 s.heap t1 t2 l1 l2).objs.size))) { s with heap := zP5 s.heap t1 t2 l1 l2 }) :=
  .of_wp fun prog w A R s h => by
    obtain ⟨hp, g, d, tk, os⟩ := s
    obtain ⟨q1, q2, h⟩ := h
    have k0 := sub_zip
    have k1 : AtSq t1 (Shared.heap ⟨hp, g, d, tk, os⟩) l1 xs := q1
    have k2 : AtSq t2 (Shared.heap ⟨hp.push (itO t1 l1), g, d, tk, os⟩) l2 ys := q2.up fun o e => Heap.get?_push_of_some _ e
    wp_walk using sq_iter k1, sq_iter k2
    exact ⟨_, rfl, h⟩
/-- the five objects of a zip over what stands at l1, l2 -/
structure ZObs (h h' : Heap) (n : Nat) (t1 t2 : Bool) (l1 l2 : Addr) : Prop where
  z : IsZip h' (n + 4) (n + 2) (n + 3) .none
  i : IsTupOf2 h' (n + 2) (.ref n) (.ref (n + 1))
  o : IsTupOf2 h' (n + 3) .none .none
  a : AtIt t1 h' n l1 0
  b : AtIt t2 h' (n + 1) l2 0
  k : ∀ c o, h.get? c = some o → h'.get? c = some o
theorem zl_obs (h : Heap) (t1 t2 : Bool) (l1 l2 : Addr) : ZObs h (zP5 h t1 t2 l1 l2) h.objs.size t1 t2 l1 l2 ∧ (zP4 h t1 t2 l1 l2).objs.size = h.objs.size + 4 := by
  have e1 : (zP1 h t1 l1).objs.size = h.objs.size + 1 := Heap.size_push ..
  have e2 : (zP2 h t1 t2 l1 l2).objs.size = h.objs.size + 2 := (Heap.size_push ..).trans (by rw [e1])
  have e3 : (zP3 h t1 t2 l1 l2).objs.size = h.objs.size + 3 := (Heap.size_push ..).trans (by rw [e2])
  have e4 : (zP4 h t1 t2 l1 l2).objs.size = h.objs.size + 4 := (Heap.size_push ..).trans (by rw [e3])
  have u5 : ∀ c o, (zP4 h t1 t2 l1 l2).get? c = some o → (zP5 h t1 t2 l1 l2).get? c = some o := fun c o e => Heap.get?_push_of_some _ e
  have u4 : ∀ c o, (zP3 h t1 t2 l1 l2).get? c = some o → (zP5 h t1 t2 l1 l2).get? c = some o := fun c o e => u5 c o (Heap.get?_push_of_some _ e)
  have u3 : ∀ c o, (zP2 h t1 t2 l1 l2).get? c = some o → (zP5 h t1 t2 l1 l2).get? c = some o := fun c o e => u4 c o (Heap.get?_push_of_some _ e)
  have u2 : ∀ c o, (zP1 h t1 l1).get? c = some o → (zP5 h t1 t2 l1 l2).get? c = some o := fun c o e => u3 c o (Heap.get?_push_of_some _ e)
  refine ⟨⟨?_, ?_, ?_, ⟨itO t1 l1, u2 _ _ (Heap.get?_push_size _ rfl), rfl, rfl⟩, ⟨itO t2 l2, ?_, rfl, rfl⟩, fun c o e => u2 c o (Heap.get?_push_of_some _ e)⟩, e4⟩
  · have g : (zP5 h t1 t2 l1 l2).get? (zP4 h t1 t2 l1 l2).objs.size = _ := Heap.get?_push_size _ rfl
    rw [e4, e2, e3] at g
    exact g
  · have g : (zP5 h t1 t2 l1 l2).get? (zP2 h t1 t2 l1 l2).objs.size = _ := u4 _ _ (Heap.get?_push_size _ rfl)
    rw [e2, e1] at g
    exact g
  · have g : (zP5 h t1 t2 l1 l2).get? (zP3 h t1 t2 l1 l2).objs.size = _ := u5 _ _ (Heap.get?_push_size _ rfl)
    rw [e3] at g
    exact g
  · have g : (zP5 h t1 t2 l1 l2).get? (zP1 h t1 l1).objs.size = _ := u3 _ _ (Heap.get?_push_size _ rfl)
    rw [e1] at g
    exact g
theorem zl_call {t1 t2 : Bool} {l1 l2 : Addr} {xs ys : Array Value} {Q : Value → Shared → Prop} (q1 : AtSq t1 s.heap l1 xs) (q2 : AtSq t2 s.heap l2 ys)
    (q : ∀ h', ZObs s.heap h' s.heap.objs.size t1 t2 l1 l2 → Q (.ref (s.heap.objs.size + 4)) { s with heap := h' }) : wpAny (model prog w) A (call (.type "zip") [.ref l1, .ref l2]) Q E s := by
  obtain ⟨z, e⟩ := zl_obs s.heap t1 t2 l1 l2
  refine callType_new F.called_zip (by decide) (F.typeCall_zip_2 _ _) (F.newCall_zip_2 _ _) (fun obj => F.args_object_init_3 obj _ _) F.entry_zip_new (zl_new t1 t2 l1 l2 xs ys) ⟨q1, q2, ?_⟩
  rw [e]
  exact ⟨⟨_, z.z, rfl⟩, q _ z⟩
end

/-! ### a loop over zip of a tuple and a list -/
/-- the turns: the tuple at a, the list at b -/
def SqB (t : Bool) (K : PySem.W.Frag) (H : Hp) (b : Addr) (ys : List V) : Prop := match t with
  | true => SqT K H b ys
  | false => SqL K H b ys
theorem sqB_at {X : Cx} {pins : List (Addr × Obj)} {σ : L2.St} {H : Hp} {s : Shared} {t : Bool} {b : Addr} {ys : List V} (I : L2.Inv X pins σ H s) (h : SqB t X.K H b ys) : ∃ its, Vals ys its ∧ AtSq t s.heap b its.toArray := by
  cases t with
  | true => obtain ⟨j, r, p, _⟩ := I.tuple h; exact ⟨j, r, p⟩
  | false => obtain ⟨j, r, p, _⟩ := I.list h; exact ⟨j, r, p.isList⟩
theorem sqB_inj {X : Cx} {pins : List (Addr × Obj)} {σ : L2.St} {H : Hp} {s : Shared} {t : Bool} {b : Addr} {xs ys : List V} (I : L2.Inv X pins σ H s) (h : SqB t X.K H b xs) (k : SqB t X.K H b ys) : xs = ys := by
  cases t with
  | true => exact I.tuple_inj h k
  | false => exact I.list_inj h k
def ItM (t : Bool) (K : PySem.W.Frag) (a b : Addr) : It :=
  ⟨fun i H => ∃ (xs ys : List V) (x y : V), SqT K H a xs ∧ SqB t K H b ys ∧ xs[i]? = some x ∧ ys[i]? = some y,
    fun i H v H' => ∃ T x y, v = .ref T ∧ H T = none ∧ H' = upd H T (.tup [x, y]) ∧ (∀ xs, SqT K H a xs → xs[i]? = some x) ∧ ∀ ys, SqB t K H b ys → ys[i]? = some y,
    fun i H => ∃ xs ys : List V, SqT K H a xs ∧ SqB t K H b ys ∧ xs.length = i ∧ ys.length = i⟩
/-- the five objects of such a zip at turn i -/
def StM (t : Bool) (n a b : Addr) (i : Nat) (h : Heap) : Prop := IsZip h (n + 4) (n + 2) (n + 3) .none ∧ IsTupOf2 h (n + 2) (.ref n) (.ref (n + 1)) ∧ (∃ x y, IsTupOf2 h (n + 3) x y) ∧ AtIt true h n a i ∧ AtIt t h (n + 1) b i
theorem at_go {t : Bool} {h h' : Heap} {it l : Addr} {i : Nat} (a : AtIt t h it l i) (k : ∀ o, h.get? it = some o → h'.get? it = some o) : AtIt t h' it l i :=
  let ⟨o, e, c, d⟩ := a
  ⟨o, k o e, c, d⟩
theorem zipM (t : Bool) {P : Program} {w : World} {K : PySem.W.Frag} {elts : List Expr} {kk : Nat} {tpos : Pos} {a b n : Addr} (la : a < n) (lb : b < n) : Turn P w K (.Tuple elts kk tpos) (ItM t K a b) [n + 4, n + 2, n + 3, n, n + 1] (n + 4) (StM t n a b) := by
  have memL : ∀ {c : Addr}, c ∈ [n + 4, n + 2, n + 3, n, n + 1] ↔ c = n + 4 ∨ c = n + 2 ∨ c = n + 3 ∨ c = n ∨ c = n + 1 := fun {c} => by simp
  have ne : ∀ {i j : Nat}, i ≠ j → n + i ≠ n + j := fun h z => h (Nat.add_left_cancel z)
  have S : ZipSep2 (n + 4) (n + 2) (n + 3) n (n + 1) [n, a] [n + 1, b] := by
    have key : ∀ (x m k : Nat), x < m → ¬ m + k = x := fun x m k h => by omega
    refine ⟨ne (by decide), ne (by decide), ne (by decide), ne (i := 2) (j := 0) (by decide), List.mem_cons_self, ?_, ?_, ne (by decide), List.mem_cons_self, ?_, ?_, ?_, ?_⟩ <;> simp only [List.mem_cons, List.not_mem_nil, or_false, not_or]
    · exact ⟨ne (i := 4) (j := 0) (by decide), key a n 4 la⟩
    · exact ⟨ne (i := 3) (j := 0) (by decide), key a n 3 la⟩
    · exact ⟨ne (i := 4) (j := 1) (by decide), key b n 4 lb⟩
    · exact ⟨ne (i := 3) (j := 1) (by decide), key b n 3 lb⟩
    · exact ⟨ne (i := 0) (j := 1) (by decide), key b n 0 lb⟩
    · exact ⟨ne (i := 1) (j := 0) (by decide), key a n 1 la⟩
  have na : a ≠ n := Nat.ne_of_lt la
  have nb : b ≠ n + 1 := Nat.ne_of_lt (Nat.lt_succ_of_lt lb)
  refine ⟨List.mem_cons_self, ?_, ?_, ?_, ?_, fun A i s Q E st h => wpAny_pyIter_zip st.1 h⟩
  · rintro i h ⟨st1, st2, ⟨x, y, st3⟩, ⟨o1, e1, _, d1⟩, ⟨o2, e2, _, d2⟩⟩ c hc
    rcases memL.mp hc with rfl | rfl | rfl | rfl | rfl
    · exact ⟨_, st1, fun v q => nomatch q⟩
    · exact ⟨_, st2, fun v q => nomatch q⟩
    · exact ⟨_, st3, fun v q => nomatch q⟩
    · refine ⟨o1, e1, fun v q => ?_⟩; rw [d1] at q; cases q
    · refine ⟨o2, e2, fun v q => ?_⟩; rw [d2] at q; cases q
  · rintro i h h' ⟨st1, st2, ⟨x, y, st3⟩, st4, st5⟩ k
    exact ⟨k _ (by simp) _ st1, k _ (by simp) _ st2, ⟨x, y, k _ (by simp) _ st3⟩, at_go st4 (k _ (by simp)), at_go st5 (k _ (by simp))⟩
  · rintro X rfl rfl rfl hc i pins s σ H E I hf ⟨st1, st2, ⟨x0, y0, st3⟩, st4, st5⟩ ⟨xs, ys, x, y, hqx, hqy, hx, hy⟩
    obtain ⟨ja, ra, pa, _⟩ := I.tuple hqx
    obtain ⟨jb, rb, pb⟩ := sqB_at I hqy
    obtain ⟨u, hu, ru⟩ := ra.get hx
    obtain ⟨v, hv, rv⟩ := rb.get hy
    have ia : i < ja.toArray.size := by rw [List.size_toArray]; exact (List.getElem?_eq_some_iff.mp hu).1
    have ib : i < jb.toArray.size := by rw [List.size_toArray]; exact (List.getElem?_eq_some_iff.mp hv).1
    have old : ∀ c ∈ [n + 4, n + 2, n + 3, n, n + 1], c < s.heap.objs.size := fun c hc => by
      rcases memL.mp hc with rfl | rfl | rfl | rfl | rfl
      · exact Heap.lt_size st1
      · exact Heap.lt_size st2
      · exact Heap.lt_size st3
      · obtain ⟨_, e1, _⟩ := st4; exact Heap.lt_size e1
      · obtain ⟨_, e2, _⟩ := st5; exact Heap.lt_size e2
    have zl := old (n + 4) List.mem_cons_self
    obtain ⟨T, eT⟩ : ∃ T, T = s.heap.objs.size := ⟨_, rfl⟩
    have hh := I.ok.hd hc
    refine wpAny_pyNext_zipD2_item S (sq_draws (A := X.A.in1) hh true n a na ja.toArray) (sq_draws (A := X.A.in1) hh t (n + 1) b nb jb.toArray) st1 st2 st3 ⟨st4, pa⟩ ⟨st5, pb⟩ ia ib fun y1 y2 g tk q1 q2 gz gO g1 g2 gT gs gk => ?_
    have e1 : y1 = u := by rw [List.getElem?_toArray, hu] at q1; exact (Option.some.inj q1).symm
    have e2 : y2 = v := by rw [List.getElem?_toArray, hv] at q2; exact (Option.some.inj q2).symm
    subst e1 e2
    refine ⟨_, rfl, wpAny_letOwnedTupleGo_zip (s := { s with heap := g, toks := tk }) gz fun g' gz' sb => ?_⟩
    rw [← eT] at gT gz ⊢
    have zT : T ≠ n + 4 := by rw [eT]; exact Nat.ne_of_gt zl
    have fresh : H T = none := I.hok.fresh (Nat.le_of_eq eT.symm)
    have eT' : g'.get? T = some { cls := .type "tuple", data := .seq #[y1, y2] } := (sb.2 _ zT).trans gT
    have I1 : L2.Inv X pins σ (upd H T (.tup [x, y])) { s with heap := g', toks := tk } := by
      refine I.turnedNew (t' := tk) (ch := [n + 4, n + 2, n + 3, n, n + 1]) (fun c o hb q => ?_) hf (Nat.le_of_eq eT.symm) ⟨by show 2 ≤ sizeLine; decide, [y1, y2], .cons ru (.cons rv .nil), ⟨_, eT', rfl, _, rfl⟩⟩
      have hb := (not_congr memL).mp hb
      simp only [not_or] at hb
      obtain ⟨b1, b2, b3, b4, b5⟩ := hb
      exact (sb.2 c b1).trans (gk c o b1 b3 b4 b5 q)
    refine ⟨.ref T, _, I1, rfl, ⟨_, x, y, rfl, fresh, rfl, fun l hl => ?_, fun l hl => ?_⟩, ⟨gz', (sb.2 _ S.TIz).trans (gk _ _ S.TIz S.TITO S.TIi1 S.TIi2 st2), ⟨_, _, (sb.2 _ S.TOz).trans gO⟩, at_go g1.1 fun o q => (sb.2 _ S.zi1.symm).trans q, at_go g2.1 fun o q => (sb.2 _ S.zi2.symm).trans q⟩, fun c hcm => ?_⟩
    · rw [I.tuple_inj hl hqx]; exact hx
    · rw [sqB_inj I hl hqy]; exact hy
    · rw [upd_ne (by rw [eT]; exact Nat.ne_of_lt (old c hcm))]
      exact (hf c hcm).1
  · rintro X rfl rfl rfl hc i pins s σ H E I hf ⟨st1, st2, ⟨x0, y0, st3⟩, st4, st5⟩ ⟨xs, ys, hqx, hqy, l1, l2⟩
    obtain ⟨ja, ra, pa, _⟩ := I.tuple hqx
    obtain ⟨jb, rb, pb⟩ := sqB_at I hqy
    have ea : ja.toArray.size = i := by rw [List.size_toArray, ← ra.length]; exact l1
    have eb : jb.toArray.size = i := by rw [List.size_toArray, ← rb.length]; exact l2
    have hh := I.ok.hd hc
    refine wpAny_pyNext_zipD2_end (i := i) S (sq_draws (A := X.A.in1) hh true n a na ja.toArray) (sq_draws (A := X.A.in1) hh t (n + 1) b nb jb.toArray) st1 st2 st3 ⟨st4, pa⟩ ⟨st5, pb⟩ (Nat.le_of_eq ea.symm) (Nat.le_of_eq eb.symm) (.inl ea.symm) fun h' tk hk => ⟨rfl, ?_⟩
    refine I.turnedL (t' := tk) (ch := [n + 4, n + 2, n + 3, n, n + 1]) (fun c o hb q => ?_) hf
    have hb := (not_congr memL).mp hb
    simp only [not_or] at hb
    exact hk c o hb.1 hb.2.2.1 hb.2.2.2.1 hb.2.2.2.2 q
def iZipM (K : PySem.W.Frag) (ta : TA) : TI := fun σ H R => ta σ H fun vs H1 => ∃ a b xs ys, vs = [.ref a, .ref b] ∧ SqT K H1 a xs ∧ ∃ t, SqB t K H1 b ys ∧ R (ItM t K a b) H1
theorem pi_zipM {X : Cx} {e e2 : Expr} {ta : TA} {p pos tpos : Pos} {elts : List Expr} {kk : Nat} (hg : Gl X "zip") (hm : X.mg "zip" = none) (ha : PA X [e, e2] ta)
    (hs : starEach [e, e2] X.env = (false, eval e X.env) :: starEach [e2] X.env := by rfl) (hpl : (backTo pos (starEach [e2] X.env)).any (·.1) = false := by rfl) :
    PI X (.Tuple elts kk tpos) (.Call (.Name "zip" p) [e, e2] [] pos) (iZipM X.K ta) := by
  refine ⟨fun pins s σ H R I h => Call_ (ld_blt I hg hm PyProof.Rows.boot_zip (PyProof.Rows.callWith_type1 (thn (ha.run pos pins s σ H _ I h) fun us s1 ⟨vs, H1, I1, r1, q1⟩ => ?_) hs hpl))⟩
  obtain ⟨a, b, xs, ys, rfl, hqx, t, hqy, q⟩ := q1
  cases r1 with
  | cons ra r1 =>
  cases r1 with
  | cons rb r1 =>
  cases r1
  cases ra
  cases rb
  obtain ⟨_, _, pa, _⟩ := I1.tuple hqx
  obtain ⟨jb, _, pb⟩ := sqB_at I1 hqy
  obtain ⟨n, en⟩ : ∃ n, n = s1.heap.objs.size := ⟨_, rfl⟩
  have la : a < n := by
    obtain ⟨_, e, _⟩ := pa
    rw [en]
    exact Heap.lt_size e
  have lb : b < n := by rw [en]; exact pb.lt
  refine zl_call (t1 := true) (t2 := t) pa pb fun h' zo => wpAny_pyIter_zip zo.z ?_
  have zk := zo.k
  rw [← en] at zo ⊢
  refine ⟨n + 4, [n + 4, n + 2, n + 3, n, n + 1], _, _, H1, rfl, I1.kept (t' := s1.toks) zk, zipM t la lb, ⟨zo.z, zo.i, ⟨_, _, zo.o⟩, zo.a, zo.b⟩, fun c hcm => ?_, q⟩
  have le : s1.heap.objs.size ≤ c := by
    rw [← en]
    rcases (by simpa using hcm : c = n + 4 ∨ c = n + 2 ∨ c = n + 3 ∨ c = n ∨ c = n + 1) with rfl | rfl | rfl | rfl | rfl
    · exact Nat.le_add_right _ _
    · exact Nat.le_add_right _ _
    · exact Nat.le_add_right _ _
    · exact Nat.le_refl _
    · exact Nat.le_add_right _ _
  exact I1.fpOk le (I1.hok.fresh le)
theorem walk_zipM {t : Bool} {K : PySem.W.Frag} {a b : Addr} {xs ys : List V} {n : Nat} (h1 : xs.length = n) (h2 : ys.length = n) : Walk (ItM t K a b) n (fun H => SqT K H a xs ∧ SqB t K H b ys) (YPair (fun i => xs[i]?) fun i => ys[i]?) :=
  ⟨fun i H hi ⟨p, q⟩ => ⟨xs, ys, xs[i], ys[i], p, q, List.getElem?_eq_getElem (by omega), List.getElem?_eq_getElem (by omega)⟩, fun H ⟨p, q⟩ => ⟨xs, ys, p, q, h1, h2⟩,
    fun i H x H' hi ⟨p, q⟩ ⟨T, u, v, e1, e2, e3, e4, e5⟩ => ⟨T, u, v, e1, e2, e3, e4 xs p, e5 ys q⟩⟩
end Wr

set_option Elab.async false
set_option linter.all false
set_option maxRecDepth 100000
set_option maxHeartbeats 4000000
namespace Wr
open PySem PySem.Spec PyProof.Rows L2 Evl
section
variable {X : Cx}
/-- name = {..} on one line, the name a local -/
theorem ps_setDc {i : Nat} {y : Str} {py : Pos} {kx vx tg iter : Expr} {ifs : List Expr} {scope : Scope} {own : List (Str × Nat)} {pos spos : Pos} {wi : TI} {g : TG} {tt : TT} {tk tv : TE} (hc : X.calm = true) (hN : X.N.Nodup) (hy : X.N[i]? = some y) (hyl : X.env.scope.names.lookup y = some .local)
    (hsw : swapsWith (.DictComp kx vx [⟨tg, iter, ifs, 0⟩] scope pos) (some (.Name y py)) spos.line X.env = pure true) (hi : PI X tg iter wi) (ok : BlkOk X.N X.env.scope scope own)
    (hg : ∀ (s : Shared) (H : Hp) (C : Addr) (cl : List (Str × Addr)) (fp : List Addr), PG (X.blk s H scope (compEnvC scope cl C X.env) fp) tg g)
    (ht : ∀ (s : Shared) (H : Hp) (C : Addr) (cl : List (Str × Addr)) (fp : List Addr), PTs (X.blk s H scope (compEnvC scope cl C X.env) fp) ifs tt) (hk : ∀ (s : Shared) (H : Hp) (C : Addr) (cl : List (Str × Addr)) (fp : List Addr), PE (X.blk s H scope (compEnvC scope cl C X.env) fp) kx tk)
    (he : ∀ (s : Shared) (H : Hp) (C : Addr) (cl : List (Str × Addr)) (fp : List Addr), PE (X.blk s H scope (compEnvC scope cl C X.env) fp) vx tv) (hs : ∀ x, foldedSetIterable iter X.env x = pure x := by intro _; rfl) :
    PS X (.Assign [.Name y py] (.DictComp kx vx [⟨tg, iter, ifs, 0⟩] scope pos) spos) (tAsg (tDc wi g tt tk tv (own.map (·.2))) (gName i)) := by
  refine ⟨fun pins s σ H D I h0 => ?_⟩
  rw [exec_Assign_Name_used _ _ _ _ hsw]
  refine wpAny_bind (wpAny_standAt (wpAny_bind ?_))
  show wpAny _ X.A (do let _ ← comprehension (.DictComp kx vx [⟨tg, iter, ifs, 0⟩] scope pos) scope X.env (firstIterPos [⟨tg, iter, ifs, 0⟩] pos) (newDict #[]) false (eval iter X.env) (some (assign (.Name y py) X.env))) _ _ s
  have h1 : tDc wi g tt tk tv (own.map (·.2)) σ H (fun x H1 => gName i x σ H1 D.nx) := h0
  refine wpAny_bind (thn (dc_core (Qf := fun _ s' => SP X pins D .next s') hc hN I hi ok hg ht hk he hs h1 fun L C s' m H' I' q hn f => ?_) fun _ s' hq => wpAny_pure (wpAny_pure hq))
  show wpAny _ _ (assign (.Name y py) X.env (.ref L)) _ _ _
  refine wpAny_assign_Name (store_ok2 (v := V.ref L) I' hN hy (.inl hyl) rfl (fun s2 I2 ⟨a, sb, ha⟩ => ?_) (.inr hyl))
  obtain ⟨f0, f1, f2, f3, f4, f5⟩ := f
  have haC : C ≠ a := by
    rcases ha with z | z; (rw [z]; exact f1); exact fun e => f4 y a z e.symm
  exact ⟨m, hn.sameBut sb haC, fun h3 sb3 => ⟨_, H', I2.turned (t' := s2.toks) (fun b o hb e => (sb3.2 b hb).trans e) f0 f1 f3 f4 f5, q⟩⟩
theorem swD_true {kx vx : Expr} {gs : List Comprehension} {scope : Scope} {pos py : Pos} {y : Str} {l : Nat} {env : Env} (hk : env.scope.kind = .function) (hy : env.scope.names.lookup y = some .local) (hl : (py.line == pos.line) = true)
    (ha : (scope.names.any fun (n, k) => n == y && (k == .local || k == .cell)) = false) : swapsWith (.DictComp kx vx gs scope pos) (some (.Name y py)) l env = pure true := by
  have ky : env.kindOf y = some .local := hy
  have hb : env.blockKind = .function := by unfold Env.blockKind; rw [hk]; rfl
  unfold swapsWith; simp only [hb, ky, ha, Expr.pos, hl]; rfl
end
/-- a dict comprehension over any walk -/
theorem dc_it {J : It} {n : Nat} {G : Hp → Prop} {Y : Nat → Hp → V → Hp → Prop} (wk : Walk J n G Y) {g : TG} {tt : TT} {tk tv : TE} {vs : List Nat} {σ : L2.St} {H1 : Hp} {D : Addr} {Qd : Hp → Prop} (Pv : Nat → Hp → Prop) (h0 : Pv 0 (upd H1 D (.dK []))) (hG : ∀ i H, i ≤ n → Pv i H → G H)
    (hs : ∀ i x H H', i < n → Pv i H → Y i H x H' → g x (wipe σ vs) H' fun σ2 H2 => wipe σ2 vs = wipe σ vs ∧ tt σ2 H2 fun b H3 =>
      if b = true then tk σ2 H3 fun y H4 => tv σ2 H4 fun z H5 => ∃ kvs k, y = kV k ∧ H5 D = some (.dK kvs) ∧ kvs.length < sizeLine ∧ Pv (i + 1) (upd H5 D (.dK (putK kvs k z))) else Pv (i + 1) H3) (hd : ∀ H, Pv n H → Qd H) :
    ∃ W : Nat → Nat → Hp → Prop, (∃ m, W 0 m (upd H1 D (.dK []))) ∧ ∀ i m H, W i m H → (J.stop i H ∧ Qd H) ∨ (J.go i H ∧ ∃ Nx : Hp → Prop, (∀ H', Nx H' → ∃ m', m' < m ∧ W (i + 1) m' H') ∧ ∀ x H', J.yld i H x H' → g x (wipe σ vs) H' fun σ2 H2 => wipe σ2 vs = wipe σ vs ∧ tt σ2 H2 fun b H3 =>
        if b = true then tk σ2 H3 fun y H4 => tv σ2 H4 fun z H5 => ∃ kvs k, y = kV k ∧ H5 D = some (.dK kvs) ∧ kvs.length < sizeLine ∧ Nx (upd H5 D (.dK (putK kvs k z))) else Nx H3) := by
  refine ⟨fun i m H => m = n - i ∧ i ≤ n ∧ Pv i H, ⟨n, by simp, Nat.zero_le _, h0⟩, ?_⟩
  rintro i m H ⟨rfl, hi, p⟩
  have q := hG i H hi p
  by_cases hlt : i < n
  · exact .inr ⟨wk.goes i H hlt q, Pv (i + 1), fun H' p' => ⟨n - (i + 1), by omega, rfl, hlt, p'⟩, fun x H' y => hs i x H H' hlt p (wk.yields i H x H' hlt q y)⟩
  · obtain rfl : i = n := by omega
    exact .inl ⟨wk.stops H q, hd H p⟩
end Wr

set_option Elab.async false
set_option linter.all false
set_option maxRecDepth 100000
set_option maxHeartbeats 4000000
namespace Wr
open PySem PySem.Spec PyProof.Rows L2
/-! ### an exception that leaves a list comprehension -/
def Past (M : Model) (A : Around) (E : Value → Shared → Prop) (Q : Value → Shared → Prop) (acc : Value) (ce : Env) (r : Result) (s' : Shared) : Prop :=
  match r with
  | .ok _ => ∃ m, s'.heap.Ns ce.locals m ∧ ∀ h', Heap.SameBut ce.locals s'.heap h' → Q acc { s' with heap := h' }
  | .error x => ∃ m, s'.heap.Ns ce.locals m ∧ ∀ h', Heap.SameBut ce.locals s'.heap h' → wpAny M A (passOn "comprehension.variables-let-go" x ce : PySem.Sem Value) (fun _ _ => False) E { s' with heap := h' }
theorem comp_open {M : Model} {A : Around} {E : Value → Shared → Prop} {s : Shared} {env : Env} {e : Expr} {scope : Scope} {pos : Pos} {newAcc first : PySem.Sem Value} {g : Comprehension} {gs : List Comprehension} {cl : List (Str × Addr)} {Q : Value → Shared → Prop}
    (hcl : clausesOf e = g :: gs) (hs : ∀ x, foldedSetIterable g.iter env x = pure x) (hclos : closureFor scope env = pure cl) (hkind : scope.kind = .function) (hnames : ∀ x ∈ scope.names, x.2 = .local → scope.names.lookup x.1 = some .local)
    (h : wpAny M A first (fun x s₁ => wpAny M A (pyIter x) (fun it s₂ => wpAny M A newAcc (fun acc s₃ => wpAny M A (newFunctionEnv scope env.globals cl [] env.qual none .none (some env)) (fun cenv s₄ =>
      codeAny M A (.compStart e 0 it acc { cenv with scope := relabel scope env }) (Past M A E Q acc { cenv with scope := relabel scope env }) s₄) E s₃) E s₂) E s₁) E s) :
    wpAny M A (comprehension e scope env pos newAcc false first none) Q E s := by
  unfold comprehension
  rw [hclos, hcl]
  have up : ∀ {α : Type} {t : PySem.Sem α} {Q1 Q2 : α → Shared → Prop} {s'}, wpAny M A t Q1 E s' → (∀ a s, Q1 a s → Q2 a s) → wpAny M A t Q2 E s' := fun h k => wpAny_mono h k fun _ _ z => z
  refine wpAny_bind (up h fun x s₁ h₁ => wpAny_bind (wpAny_standAt (wpAny_bind (wpAny_of_eq (hs x) (wpAny_bind (wpAny_holding (up h₁ fun it s₂ h₂ => ?_)))))))
  refine wpAny_standIf (wpAny_bind (up h₂ fun acc s₃ h₃ => wpAny_bind (wpAny_pure (wpAny_bind (up h₃ fun cenv s₄ h₄ => ?_)))))
  dsimp only
  have hv : ∀ x ∈ (scope.names.filter fun x => (x.2 == .local || x.2 == .cell) && x.1 != (".0" : Str)).reverse, x.2 = .local → Env.kindOf { cenv with scope := relabel scope env } x.1 = some .local :=
    fun x hx hl => lookup_relabel_local (hnames x (List.mem_filter.mp (List.mem_reverse.mp hx)).1 hl)
  refine wpAny_holding (wpAny_bind (wpAny_attempt (wpAny_holding (wpAny_run (codeAny_mono h₄ fun r s' hr => ?_)))))
  cases r with
  | ok f =>
    obtain ⟨m, hn, hr⟩ := hr
    exact wpAny_bind (wpAny_holding (wpAny_comp_letGo (cenv := { cenv with scope := relabel scope env }) hkind _ s' m hv hn fun h' m' _ hs' => wpAny_pure (hr h' hs')))
  | error x =>
    obtain ⟨m, hn, hr⟩ := hr
    exact wpAny_bind (wpAny_holding (wpAny_comp_letGo (cenv := { cenv with scope := relabel scope env }) hkind _ s' m hv hn fun h' m' _ hs' => wpAny_mono (hr h' hs') (fun _ _ f => f.elim) fun _ _ y => y))
theorem note_env {x : Value} {e e' : Env} (h : e.frame = e'.frame) : noteFrame x e = noteFrame x e' := by
  unfold noteFrame PySem.frameOf
  rw [h]
/-- noted here, however it came -/
theorem Sky.note {M : Model} {A : Around} {E₁ : Value → Shared → Prop} {s : Shared} {B : Heap} {env : Env} {outer : List Env} {L a : Addr} {Z : Obj → Prop} {Q : Unit → Shared → Prop} (hZ : PXN.Steady1 Z) (hfr : A.frames = some (env :: outer)) (hf : env.frame = some L)
    (x : Sky B (env :: outer) a Z L s.heap) (hQ : ∀ h', HandSPX.HeldZ B (env :: outer) a Z L h' → s.heap.UpToSlots h' → Q () { s with heap := h' }) : wpAny M A (noteFrame (.ref a) env) Q E₁ s := by
  rcases x with ⟨hB, hn, hl, oe, vs, he, hz, hd, h1⟩ | fl | hh
  · exact PXN.look_newZ hZ hfr hl hf he hB hn hd h1 hz hQ
  · exact PXN.looks_onZ hZ hfr hf fl hQ
  · exact HandSPX.againZ hf hh.2.2.2 (hQ s.heap hh (Heap.UpToSlots.refl _))
theorem frames_but {h h' B B' : Heap} {C : Addr} (sb : ∀ b, b ≠ C → h'.get? b = h.get? b) (hB : ∀ b, B.get? b = none → B'.get? b = none) : ∀ {l : List Env}, C ∉ frs l → h.FunFrames B l → h'.FunFrames B' l
  | [], _, _ => trivial
  | env :: l, hC, ⟨hk, ⟨L, o, hf, hn, ho, hd⟩, hr⟩ => by
    have hL : L ∈ frs (env :: l) := List.mem_filterMap.mpr ⟨env, List.mem_cons_self, hf⟩
    refine ⟨hk, ⟨L, o, hf, hB L hn, (sb L fun z => hC (z ▸ hL)).trans ho, hd⟩, frames_but sb hB (fun hm => hC ?_) hr⟩
    obtain ⟨e, he, q⟩ := List.mem_filterMap.mp hm
    exact List.mem_filterMap.mpr ⟨e, List.mem_cons_of_mem _ he, q⟩
section
variable {X : Cx} {pins : List (Addr × Obj)} {σ : L2.St} {H : Hp} {s s' : Shared} {Eb : XK}
theorem call_out {Q : Value → Shared → Prop} {acc u : Value} {ce : Env} {m : Str → Option Value} (hs : X.stack = X.env :: X.outer) (hf : X.env.frame = some X.env.locals) (tk : L2N.Takes X fun cls d _ H => Eb cls d H) (I : L2.Inv X pins σ H s)
    (c : L2N.CX X.prog X.w X.stack H s Eb u s') (fC : FpOk X pins H ce.locals) (hn : s.heap.Ns ce.locals m) (hce : ce.frame = X.env.frame) :
    notedBy (model X.prog X.w) X.A ce (fun e s'' => Past (model X.prog X.w) X.A X.xe Q acc ce (.error e) s'') u s' := by
  obtain ⟨a, B, H', cls, d, rfl, fl, hok, ub, na, os, ag, hE⟩ := c
  generalize hC : ce.locals = C at fC hn
  obtain ⟨oC, es, ep, gC, dC, sk, nf⟩ := hn
  have nfr : C ∉ frs X.stack := fun hm => (List.mem_cons.mp (I.stkSub C hm)).elim fC.2.1 fC.2.2.1
  have BC := ub.keep C oC gC fC.1 nfr
  have sC := fl.1 C oC BC
  have H'C := ub.free C oC gC fC.1
  have ndat : ∀ vs, oC.data ≠ .fields vs := fun vs z => by rw [dC] at z; cases z
  have hfr : X.A.frames = some (X.env :: X.outer) := by rw [I.ok.frames, hs]
  rw [hs] at fl
  unfold notedBy
  rw [note_env hce]
  refine Sky.note L2N.Zn.steady hfr hf (.inr (.inl fl)) fun h1 hh up => ?_
  obtain ⟨sl, e1⟩ := up C oC sC ndat
  refine ⟨m, ⟨{ oC with slots := sl }, es, ep, by rw [hC]; exact e1, dC, sk, nf⟩, fun h2 sb => ?_⟩
  rw [hC] at sb
  obtain ⟨b1, b2, b3, oe, vs, T, oT, ts, he, hz, hd, hv1, hnT, hTe, hT, hdT, ht3⟩ := hh
  have aC : a ≠ C := fun z => by
    rw [z, e1] at he
    cases he
    exact ndat vs hd
  have tC : T ≠ C := fun z => by
    rw [z, e1] at hT
    cases hT
    exact ndat ts hdT
  -- the ground without the block's dict
  obtain ⟨G, g1, g2⟩ := restrict s'.heap fun b => decide (b ≠ C) && ((B.get? b).isSome || decide (b ∈ frs X.stack))
  have st : B.StaysIn s'.heap := fl.1
  have og : ∀ b o, G.get? b = some o → b ≠ C ∧ s'.heap.get? b = some o ∧ ((B.get? b).isSome = true ∨ b ∈ frs X.stack) := fun b o e => by
    cases q : (decide (b ≠ C) && ((B.get? b).isSome || decide (b ∈ frs X.stack))) with
    | false => rw [g2 b q] at e; cases e
    | true =>
      rw [g1 b q] at e
      rw [Bool.and_eq_true, Bool.or_eq_true] at q
      exact ⟨of_decide_eq_true q.1, e, q.2.imp id of_decide_eq_true⟩
  have gB : ∀ b o, b ≠ C → B.get? b = some o → G.get? b = some o := fun b o ne e => by
    rw [g1 b (by simp [ne, e])]
    exact st b o e
  have gF : ∀ b, b ∈ frs X.stack → G.get? b = s'.heap.get? b := fun b hb => g1 b (by
    have ne : b ≠ C := fun z => nfr (z ▸ hb)
    simp [ne, hb])
  have J : L2.Inv X pins σ H' { s with heap := G, gens := s'.gens, drawn := s'.drawn, toks := s'.toks } := by
    have ne : ∀ {b : Addr}, b ∉ [C] → b ≠ C := fun h z => h (z ▸ List.mem_singleton.mpr rfl)
    refine I.call (ch := [C]) ⟨fun b o e n hb hx => gB b o (ne hx) (ub.keep b o e n hb), fun b o e n hb hx => ?_, fun b o e n hx => ub.free b o e n, fun b o e hx => ?_, ub.tups, ub.frzs, ub.tbls⟩ (fun b o q => (hok b o q).stay (fun c v hc r => gB c v (fun z => ?_) r) (fun _ r => r) fun _ _ r => r) ag (fun b hb => ?_)
    · obtain ⟨sl, q⟩ := ub.slot b o e hb
      exact ⟨sl, by rw [gF b hb]; exact q⟩
    · by_cases hb : b ∈ frs X.stack
      · obtain ⟨sl, q⟩ := ub.slot b o e hb
        exact ⟨_, by rw [gF b hb]; exact q⟩
      · obtain ⟨o', q⟩ := ub.there b o e hb
        exact ⟨o', gB b o' (ne hx) q⟩
    · rcases hc with hc | hc
      · rw [← hc, z, H'C] at q
        cases q
      · rw [z, H'C] at hc
        cases hc
    · rw [List.mem_singleton.mp hb]
      exact ⟨fC.2.2.2.1, fC.2.1, fC.2.2.2.2.1, fC.2.2.2.2.2⟩
  have hB : ∀ b, B.get? b = none → (PySem.W.hideAll B [C]).get? b = none := fun b e => by
    cases q : (PySem.W.hideAll B [C]).get? b with
    | none => rfl
    | some o => rw [PySem.W.of_hideAll _ q] at e; cases e
  have ofB : ∀ b o, (PySem.W.hideAll B [C]).get? b = some o → b ≠ C ∧ B.get? b = some o := fun b o q => by
    refine ⟨fun z => ?_, PySem.W.of_hideAll _ q⟩
    rw [z, PySem.W.hideAll_none [C] (List.mem_singleton.mpr rfl)] at q
    cases q
  unfold PySem.passOn
  refine wpAny_bind (wpAny_field ((sb.2 a aC).trans he) hd hv1 ?_)
  rw [if_neg (show ¬ ((Value.ref T == Value.none) = true) from by simp)]
  have fin : wpAny (model X.prog X.w) X.A (setFlight (.ref a) ce.frame) (fun _ s4 => wpAny (model X.prog X.w) X.A (throw (.ref a) : PySem.Sem Value) (fun _ _ => False) X.xe s4) X.xe { s' with heap := h2 } := by
    rw [hce, hf]
    have hCf : C ∉ frs (X.env :: X.outer) := hs ▸ nfr
    refine HandSPX.setFlight_anyZ (base := PySem.W.hideAll B [C]) (l := X.env :: X.outer) (Z := L2N.Zn cls d) (fl := rawInt X.env.locals) (fun b o q => ?_) (frames_but sb.2 hB hCf b3) ⟨oe, vs, T, oT, ts, (sb.2 a aC).trans he, hz, hd, hv1, hB T hnT, hTe, (sb.2 T tC).trans hT, hdT, ht3⟩ fun h3 k1 k2 k3 k4 => wpAny_throw (tk _ _ ?_)
    · obtain ⟨q1, q2⟩ := ofB b o q
      exact (sb.2 b q1).trans (b1 b o q2)
    · refine ⟨a, PySem.W.hideAll B [C], _, pins, σ, H', cls, d, rfl, J, fun b o e hb => ?_, fun b o e hnf => ?_, .inr (.inr ⟨k1, hB a b2, by rw [hs]; exact k2, k3⟩), na, os, ag, hE⟩
      · obtain ⟨q1, q2, q3⟩ := og b o e
        refine PySem.W.hideAll_get _ ?_ fun z => q1 (List.mem_singleton.mp z)
        rcases q3 with q3 | q3
        · obtain ⟨o', q⟩ := Option.isSome_iff_exists.mp q3
          have z := st b o' q
          rw [q2] at z
          cases z
          exact q
        · exact absurd q3 hb
      · obtain ⟨q1, q2, _⟩ := og b o e
        obtain ⟨sl1, z1⟩ := up b o q2 hnf
        obtain ⟨sl2, z2⟩ := k4 b _ ((sb.2 b q1).trans z1) hnf
        exact ⟨sl2, z2⟩
  first
    | exact wpAny_bind (wpAny_pure (wpAny_bind fin))
    | exact wpAny_bind fin
/-- [e for .. in ..], the element may raise -/
theorem pe_lcX {elt tg iter : Expr} {ifs : List Expr} {scope : Scope} {own : List (Str × Nat)} {pos : Pos} {wi : TI} {g : TG} {tt : TT} {te : TE} (hc : X.calm = true) (hN : X.N.Nodup) (hs : X.stack = X.env :: X.outer) (hf : X.env.frame = some X.env.locals)
    (tk : L2N.Takes X fun cls d _ H => Eb cls d H) (hi : PI X tg iter wi) (ok : BlkOk X.N X.env.scope scope own)
    (hg : ∀ s H C cl fp xe, PG ((X.blk s H scope (compEnvC scope cl C X.env) fp).wish xe) tg g) (ht : ∀ s H C cl fp xe, PTs ((X.blk s H scope (compEnvC scope cl C X.env) fp).wish xe) ifs tt)
    (he : ∀ s H C cl fp xe, (∀ σ, PassesAt (L2N.CX X.prog X.w) ((X.blk s H scope (compEnvC scope cl C X.env) fp).wish xe) σ Eb) → PE ((X.blk s H scope (compEnvC scope cl C X.env) fp).wish xe) elt te)
    (fs : ∀ x, foldedSetIterable iter X.env x = pure x := by intro _; rfl) : PE X (.ListComp elt [⟨tg, iter, ifs, 0⟩] scope pos) (tLc wi g tt te (own.map (·.2))) := by
  refine ⟨fun pins s σ H Q I h => ?_⟩
  rw [eval_ListComp]
  have fr : ∀ y ∈ scope.names, y.2 = .free → ∃ c, X.env.cells.lookup y.1 = some c := fun y hy e => I.ok.has _ (ok.free y hy e)
  refine comp_open rfl fs (closure_ok fr) ok.kind (fun y hy e => by rw [ok.uniq y hy, e]) (thn (hi.run pins s σ H _ I h) fun xv s1 hx => thn hx fun itv s2 ⟨it, fp, tn, J, H2, e, I2, T, st2, f2, q⟩ => ?_)
  subst e
  refine wpAny_newObj_type (newEnv_comp ?_) (by show 0 ≤ sizeLine; decide)
  obtain ⟨D, eD⟩ : ∃ D : Addr, D = s2.heap.objs.size := ⟨_, rfl⟩
  obtain ⟨W, ⟨m0, w0⟩, turn⟩ := q D (I2.hok.fresh (Nat.le_of_eq eD.symm))
  obtain ⟨s3, es3⟩ : ∃ s3 : Shared, s3 = { s2 with heap := s2.heap.push { cls := .type "list", data := .seq ([] : List Value).toArray } } := ⟨_, rfl⟩
  have h3 : s3.heap = s2.heap.push { cls := .type "list", data := .seq ([] : List Value).toArray } := by rw [es3]
  have I3 : L2.Inv X pins σ (upd H2 D (.lst [])) s3 := by
    rw [es3]
    refine I2.laid (t' := s2.toks) (fun b o e => Heap.get?_push_of_some _ e) (Nat.le_of_eq eD.symm) ⟨Nat.zero_le _, [], 0, .nil, ?_⟩
    rw [eD]
    exact Heap.get?_push_size _ rfl
  have f3 : ∀ b ∈ fp, FpOk X pins (upd H2 D (.lst [])) b ∧ b < s3.heap.objs.size := fun b hb => by
    obtain ⟨o, e, _⟩ := T.obj _ _ st2 b hb
    have lt := Heap.lt_size e
    refine ⟨⟨?_, (f2 b hb).2⟩, by rw [h3, Heap.size_push]; exact Nat.lt_succ_of_lt lt⟩
    rw [upd_ne (by rw [eD]; exact Nat.ne_of_lt lt)]
    exact (f2 b hb).1
  have I4 := block_start I3 ok hN f3
  have st3 : tn 0 s3.heap := T.keep _ _ _ st2 fun b _ o e => by rw [h3]; exact Heap.get?_push_of_some _ e
  rw [← es3, ← eD]
  show codeAny _ _ (.compStart (.ListComp elt [⟨tg, iter, ifs, 0⟩] scope pos) 0 (.ref it) (.ref D) (compEnvC scope (cellsFrom (s3.heap.objs.size + 1) scope.names (cloFrom X.env.cells scope.names [])) s3.heap.objs.size X.env)) (Past (model X.prog X.w) X.A X.xe (EP X pins σ Q) (.ref D) (compEnvC scope (cellsFrom (s3.heap.objs.size + 1) scope.names (cloFrom X.env.cells scope.names [])) s3.heap.objs.size X.env)) { s3 with heap := pushCells (s3.heap.push { cls := .type "dict", data := .dict #[] }) scope.names }
  have pg := hg s3 (upd H2 D (.lst [])) s3.heap.objs.size (cellsFrom (s3.heap.objs.size + 1) scope.names (cloFrom X.env.cells scope.names [])) fp
  have pt := ht s3 (upd H2 D (.lst [])) s3.heap.objs.size (cellsFrom (s3.heap.objs.size + 1) scope.names (cloFrom X.env.cells scope.names [])) fp
  have pe := he s3 (upd H2 D (.lst [])) s3.heap.objs.size (cellsFrom (s3.heap.objs.size + 1) scope.names (cloFrom X.env.cells scope.names [])) fp
  have cL : (compEnvC scope (cellsFrom (s3.heap.objs.size + 1) scope.names (cloFrom X.env.cells scope.names [])) s3.heap.objs.size X.env).locals = s3.heap.objs.size := rfl
  have cF : (compEnvC scope (cellsFrom (s3.heap.objs.size + 1) scope.names (cloFrom X.env.cells scope.names [])) s3.heap.objs.size X.env).frame = X.env.frame := rfl
  generalize compEnvC scope (cellsFrom (s3.heap.objs.size + 1) scope.names (cloFrom X.env.cells scope.names [])) s3.heap.objs.size X.env = ce at I4 pg pt pe cL cF ⊢
  have st4 : tn 0 (pushCells (s3.heap.push { cls := .type "dict", data := .dict #[] }) scope.names) := T.keep _ _ _ st3 fun b _ o e => pushCells_keeps _ _ _ _ (Heap.get?_push_of_some _ e)
  have n3 : ∀ b ∈ fp, (upd H2 D (.lst [])) b = none := fun b hb => (f3 b hb).1.1
  generalize upd H2 D (.lst []) = H3 at I3 I4 pg pt pe w0 f3 n3
  -- back in the def's context, at any time
  have back : ∀ {pn : List (Addr × Obj)} {σ' : L2.St} {H' : Hp} {s' : Shared}, L2.Inv (X.blk s3 H3 scope ce fp) pn σ' H' s' → L2.Inv X pins σ H' s' ∧ FpOk X pins H' ce.locals ∧ ∃ m, s'.heap.Ns ce.locals m := fun {pn σ' H' s'} J => by
    obtain ⟨m, hn, _⟩ := J.loc
    refine ⟨I3.call' (ch := fp) J.os J.base J.hok J.bare fun b hb => ?_, I3.fpOk (Nat.le_of_eq cL.symm) J.free, m, hn⟩
    have z := (f3 b hb).1
    exact ⟨z.2.2.2.1, z.2.1, z.2.2.2.2.1, z.2.2.2.2.2⟩
  have stat : ∀ {σ' : L2.St} {H' : Hp} {s' : Shared}, L2.Inv (X.blk s3 H3 scope ce fp) [] σ' H' s' → (∀ b ∈ fp, H' b = none) → ∀ b ∈ fp, FpOk (X.blk s3 H3 scope ce fp) [] H' b := fun {σ' H' s'} J n b hb =>
    ⟨n b hb, (J.ok.exf b hb).1, J.ok.exfs b hb, .inl hb, (J.ok.exf b hb).2, fun _ z => nomatch z⟩
  have loop : codeAny (model X.prog X.w) X.A (.compLoop (.ListComp elt [⟨tg, iter, ifs, 0⟩] scope pos) 0 (.ref it) (.ref D) ce) (Past (model X.prog X.w) X.A X.xe (EP X pins σ Q) (.ref D) ce) { s3 with heap := pushCells (s3.heap.push { cls := .type "dict", data := .dict #[] }) scope.names } := by
    refine compLoop_any (fun n s' => ∃ i H', L2.Inv (X.blk s3 H3 scope ce fp) [] (wipe σ (own.map (·.2))) H' s' ∧ tn i s'.heap ∧ (∀ b ∈ fp, H' b = none) ∧ W i n H') ?_ m0 ⟨0, H3, I4, st4, n3, w0⟩
    intro n s5 ⟨i, H5, I5, st5, n5, w5⟩
    have pass : ∀ σ', PassesAt (L2N.CX X.prog X.w) ((X.blk s3 H3 scope ce fp).wish (notedBy (model X.prog X.w) X.A ce fun e s'' => Past (model X.prog X.w) X.A X.xe (EP X pins σ Q) (.ref D) ce (.error e) s'')) σ' Eb := fun σ' pn H' s' e s'' J c => by
      obtain ⟨K1, K2, m, K3⟩ := back J.unwish
      exact call_out hs hf tk K1 c K2 K3 cF
    have pe := pe _ pass
    have pg := pg (notedBy (model X.prog X.w) X.A ce fun e s'' => Past (model X.prog X.w) X.A X.xe (EP X pins σ Q) (.ref D) ce (.error e) s'')
    have pt := pt (notedBy (model X.prog X.w) X.A ce fun e s'' => Past (model X.prog X.w) X.A X.xe (EP X pins σ Q) (.ref D) ce (.error e) s'')
    rcases turn i n H5 w5 with ⟨stop, qq⟩ | ⟨go, Nx, hNx, step⟩
    · refine thnF (T.done (X.blk s3 H3 scope ce fp) rfl rfl rfl hc i [] s5 _ H5 (fun _ _ => False) I5 (stat I5 n5) st5 stop) fun r s6 ⟨hr, I6⟩ => ?_
      subst hr
      obtain ⟨K1, ⟨f0, f1, f2, f3, f4, f5⟩, m, K3⟩ := back I6
      exact ⟨m, K3, fun h' sb => ⟨.ref D, H5, K1.turned (t' := s6.toks) (fun b o hb e => (sb.2 b hb).trans e) f0 f1 f3 f4 f5, rfl, qq⟩⟩
    · refine thnF (T.item (X.blk s3 H3 scope ce fp) rfl rfl rfl hc i [] s5 _ H5 (fun _ _ => False) I5 (stat I5 n5) st5 go) fun r s6 ⟨u, hr, h6⟩ => ?_
      subst hr
      refine thnF h6 fun _ s7 ⟨x, H7, I7, r7, y7, st7, n7⟩ => ?_
      have I7' := I7.pinned (stat I7 n7) (T.obj _ _ st7)
      refine thn (pg.run _ s7 _ H7 x u _ (I7'.wish _) r7 (step x H7 y7)) fun _ s8 ⟨σ8, H8, I8, w8, q8⟩ => ?_
      refine thn (pt.run _ s8 σ8 H8 _ I8 q8) fun c s9 ⟨H9, I9, q9⟩ => ?_
      have done : ∀ {s' : Shared} {H' : Hp}, L2.Inv (X.blk s3 H3 scope ce fp) ([] ++ pinsAt fp s7.heap) σ8 H' s' → Nx H' → ∃ m, m < n ∧ ∃ i H', L2.Inv (X.blk s3 H3 scope ce fp) [] (wipe σ (own.map (·.2))) H' s' ∧ tn i s'.heap ∧ (∀ b ∈ fp, H' b = none) ∧ W i m H' := fun {s' H'} J nx => by
        obtain ⟨m', hm, w'⟩ := hNx H' nx
        have pin := fun b (hb : b ∈ fp) o (e : s7.heap.get? b = some o) => J.pin (b, o) (List.mem_append_right _ (List.mem_append_right _ (mem_pinsAt hb e)))
        refine ⟨m', hm, i + 1, H', (J.unpinned (pins := [])).weak (by rw [← w8, wipe_length]) (fun j v e => ?_), T.keep _ _ _ st7 fun b hb o e => (pin b hb o e).1, fun b hb => ?_, w'⟩
        · rw [← w8] at e
          exact (wipe_some e).1
        · obtain ⟨o, e, _⟩ := T.obj _ _ st7 b hb
          exact (pin b hb o e).2.1
      cases c with
      | false =>
        rw [if_neg Bool.false_ne_true] at q9 ⊢
        exact done I9.unwish q9
      | true =>
        rw [if_pos rfl] at q9 ⊢
        exact thn (pe.run _ s9 σ8 H9 _ I9 q9) fun z s10 ⟨yv, H10, I10, r10, acc, hD, hzz, nx⟩ => app_ok (X := X.blk s3 H3 scope ce fp) I10.unwish hD hzz r10 fun s11 I11 => done I11 nx
  exact codeAny_compStart_list loop (T.self X.A 0 _ _ _ st4 loop)
end
end Wr

set_option Elab.async false
set_option linter.all false
set_option maxRecDepth 100000
set_option maxHeartbeats 4000000
namespace Wr
open PySem PySem.Spec PyProof.Rows L2 Evl
theorem g_ifE {K : PySem.W.Frag} {σ : L2.St} {H : Hp} {tt : TT} {c : Bool} {t1 t2 ts : TS} {D : Ends} (hc : EvT tt σ H c) (h : ∀ H1, Ex H H1 → (if c = true then t1 { D with nx := ts D } σ H1 else t2 { D with nx := ts D } σ H1)) : tSeq (tIfS tt t1 t2) ts D σ H := hc H (Ex.refl H) _ h
theorem g_no {σ : L2.St} {H : Hp} {tt : TT} {t1 ts : TS} {D : Ends} (hc : EvT tt σ H false) (h : ∀ H1, Ex H H1 → ts D σ H1) : tSeq (tIfS tt t1 tNext) ts D σ H := hc H (Ex.refl H) _ fun H1 x1 => by
  rw [if_neg Bool.false_ne_true]
  exact h H1 x1
theorem g_yes {σ : L2.St} {H : Hp} {tt : TT} {t1 t2 ts : TS} {D : Ends} (hc : EvT tt σ H true) (h : ∀ H1, Ex H H1 → t1 { D with nx := ts D } σ H1) : tSeq (tIfS tt t1 t2) ts D σ H := hc H (Ex.refl H) _ fun H1 x1 => by
  rw [if_pos rfl]
  exact h H1 x1
theorem hu1 {A : Around} {k : Nat} (hr : Room k A) : A.units + 1 < cLine := by
  have := hu64 hr
  omega
theorem opW_not {o : Str} (h : o ∈ opW) : o ≠ "name" ∧ o ≠ "call" := by
  have q : (opW.all fun o => decide (o ≠ "name") && decide (o ≠ "call")) = true := by decide +kernel
  have := List.all_eq_true.mp q o h
  rw [Bool.and_eq_true] at this
  exact ⟨of_decide_eq_true this.1, of_decide_eq_true this.2⟩
theorem fnok_none {P : Program} {w : World} {K : PySem.W.Frag} {mg : Str → Option Value} {base : Heap} {CX : CXT} {k : Nat} {f : Addr} {fd : FuncData} {ps : List Str} {sp : Sp} (h : ∀ vs H Q E, ¬ sp vs H Q E) : FnOk P w K mg base CX k f fd ps sp :=
  ⟨fun vs H Q E z => (h vs H Q E z).elim, fun _ _ _ _ _ _ _ _ _ _ _ _ _ z => (h _ _ _ _ z).elim⟩
theorem gas {i : Nat} {v : V} {ts : TS} {D : Ends} {σ : L2.St} {H : Hp} (h : ts D (σ.set i (some v)) H) : gName i v σ H ({ D with nx := ts D } : Ends).nx := h
/-! ### what may change -/
def ExS (S : List Addr) (H H' : Hp) : Prop := ∀ c o, c ∉ S → H c = some o → H' c = some o
section
variable {K : PySem.W.Frag} {S S' b : List Addr} {H H1 H2 : Hp}
theorem ExS.refl : ExS S H H := fun _ _ _ h => h
theorem ExS.trans (x : ExS S H H1) (y : ExS S H1 H2) : ExS S H H2 := fun c o n h => y c o n (x c o n h)
theorem exS (x : Ex H H1) : ExS S H H1 := fun c o _ h => x c o h
theorem ExS.mono (x : ExS S H H1) (h : ∀ c ∈ S, c ∈ S') : ExS S' H H1 := fun c o n z => x c o (fun m => n (h c m)) z
theorem hid_exS (h : ∀ c ∈ S, c ∈ b) (e : ExS S H H1) : Ex (hid b H) (hid b H1) := fun c o z => by
  obtain ⟨z1, z2⟩ := hid_some z
  rw [hid_ne z1]
  exact e c o (fun m => z1 (h c m)) z2
theorem exS_dq {v : V} {d : PyData} (h : ∀ c ∈ S, c ∈ b) (e : ExS S H H1) (k : Dq K b H v d) : Dq K b H1 v d := dp_ex (hid_exS h e) _ _ k
theorem exS_none {c : Addr} (e : ExS S H H1) (n : ∀ c ∈ S, H1 c ≠ none) (h : H1 c = none) : H c = none := by
  cases z : H c with
  | none => rfl
  | some o =>
    by_cases m : c ∈ S
    · exact absurd h (n c m)
    · rw [e c o m z] at h; cases h
/-- a new cell is left as it is by what is outside -/
theorem ExS.drop {a : Addr} (x : ExS (S ++ [a]) H1 H2) (h0 : Ex H H1) (n : H a = none) : ExS S H H2 := fun c o m z => x c o (fun q => by
  rcases List.mem_append.mp q with q | q
  · exact m q
  · rw [List.mem_singleton.mp q, n] at z; cases z) (h0 c o z)
end
/-! ### a telling -/
abbrev tf (tup sp : Addr) (l : Int) : List (Str × V) := [("tuples", .ref tup), ("left", .int l), ("spoken", .ref sp)]
structure Tl (CT p dxp tup sp : Addr) (s : Stt) (H : Hp) : Prop where
  ins : H p = some (.ins CT dxp (tf tup sp s.l))
  spk : H sp = some (.lst (s.said.map V.int))
structure StOk (s : Stt) : Prop where
  nn : 0 ≤ s.l
  few : (s.said.length : Int) + s.l ≤ 100
  wth : ∀ i ∈ s.said, Wth i
theorem StOk.le {s s' : Stt} (h : StOk s) (k : SttLe s s') : StOk s' := ⟨k.nn h.nn, Int.le_trans k.len h.few, k.wth h.wth⟩
structure Te (K : PySem.W.Frag) (CT : Addr) (b : List Addr) (p dxp tup sp : Addr) (hs : Hds) (M : Nat) (T : Tt) (s : Stt) (H : Hp) : Prop where
  kn : Kn b H
  pb : p ∈ b
  sb : sp ∈ b
  tl : Tl CT p dxp tup sp s H
  tb : tup ∉ b
  tr : ∃ kvs, H tup = some (.dK kvs) ∧ ∀ x t, T x = some t → ∃ a, valV kvs (Sum.inr x) = some (.ref a) ∧ Dq K b H (.ref a) (.tuple [.tuple (t.1.map PyData.str), .tuple t.2])
  hT : TtOk hs M T
  ok : StOk s
def KnD (kd : Addr) (ρ : Env') (l : Int) (H : Hp) : Prop := ∃ kvs, H kd = some (.dK kvs) ∧ (kvs.length : Int) ≤ l ∧ ∀ y, valV kvs (Sum.inr y) = (ρ y).map V.int
section
variable {K : PySem.W.Frag} {CT p dxp tup sp kd : Addr} {b S : List Addr} {hs : Hds} {M : Nat} {T : Tt} {s s' : Stt} {H H' : Hp} {ρ : Env'} {l l' : Int}
theorem Tl.up (h : Tl CT p dxp tup sp s H) (x : Ex H H') : Tl CT p dxp tup sp s H' := ⟨x _ _ h.ins, x _ _ h.spk⟩
theorem Tl.ne (h : Tl CT p dxp tup sp s H) : p ≠ sp := fun e => by
  have := h.ins
  rw [e, h.spk] at this
  cases this
theorem Tl.nn (h : Tl CT p dxp tup sp s H) : ∀ c ∈ [p, sp], H c ≠ none := fun c hc => by
  rcases List.mem_cons.mp hc with rfl | hc
  · rw [h.ins]; intro z; cases z
  · rw [List.mem_singleton.mp hc, h.spk]; intro z; cases z
theorem KnD.up (h : KnD kd ρ l H) (x : Ex H H') : KnD kd ρ l H' := by
  obtain ⟨kvs, h1, h2⟩ := h
  exact ⟨kvs, x _ _ h1, h2⟩
theorem KnD.le (h : KnD kd ρ l H) (hl : l ≤ l') : KnD kd ρ l' H := by
  obtain ⟨kvs, h1, h2, h3⟩ := h
  exact ⟨kvs, h1, by omega, h3⟩
theorem KnD.nn (h : KnD kd ρ l H) : H kd ≠ none := by
  obtain ⟨kvs, h1, _⟩ := h
  rw [h1]; intro z; cases z
theorem KnD.not (h : KnD kd ρ l H) (t : Tl CT p dxp tup sp s H) : kd ∉ [p, sp] := fun hc => by
  obtain ⟨kvs, h1, _⟩ := h
  rcases List.mem_cons.mp hc with rfl | hc
  · rw [t.ins] at h1; cases h1
  · rw [List.mem_singleton.mp hc, t.spk] at h1; cases h1
theorem KnD.at (h : KnD kd ρ l H) (t : Tl CT p dxp tup sp s H) (x : ExS [p, sp] H H') : KnD kd ρ l H' := by
  have n := h.not t
  obtain ⟨kvs, h1, h2⟩ := h
  exact ⟨kvs, x _ _ n h1, h2⟩
theorem nn3 (t : Tl CT p dxp tup sp s H) (k : KnD kd ρ l H) : ∀ c ∈ [p, sp, kd], H c ≠ none := fun c hc => by
  rcases List.mem_cons.mp hc with rfl | hc
  · exact t.nn _ List.mem_cons_self
  · rcases List.mem_cons.mp hc with rfl | hc
    · exact t.nn _ (List.mem_cons_of_mem _ List.mem_cons_self)
    · rw [List.mem_singleton.mp hc]; exact k.nn
theorem Te.next (h : Te K CT b p dxp tup sp hs M T s H) (hS : ∀ c ∈ S, c ∈ b) (hn : ∀ c ∈ S, H' c ≠ none) (x : ExS S H H') (t : Tl CT p dxp tup sp s' H') (ok : StOk s') : Te K CT b p dxp tup sp hs M T s' H' := by
  refine ⟨fun c hc z => ?_, h.pb, h.sb, t, h.tb, ?_, h.hT, ok⟩
  · by_cases m : c ∈ S
    · exact hn c m z
    · cases q : H c with
      | none => exact h.kn c hc q
      | some o => rw [x c o m q] at z; cases z
  · obtain ⟨kvs, k1, k2⟩ := h.tr
    refine ⟨kvs, x _ _ (fun m => h.tb (hS _ m)) k1, fun y t ht => ?_⟩
    obtain ⟨a, q1, q2⟩ := k2 y t ht
    exact ⟨a, q1, exS_dq hS x q2⟩
theorem Te.s2 (h : Te K CT b p dxp tup sp hs M T s H) : ∀ c ∈ [p, sp], c ∈ b := fun c hc => by
  rcases List.mem_cons.mp hc with rfl | hc
  · exact h.pb
  · rw [List.mem_singleton.mp hc]; exact h.sb
theorem Te.s3 (h : Te K CT b p dxp tup sp hs M T s H) (k : kd ∈ b) : ∀ c ∈ [p, sp, kd], c ∈ b := fun c hc => by
  rcases List.mem_cons.mp hc with rfl | hc
  · exact h.pb
  · rcases List.mem_cons.mp hc with rfl | hc
    · exact h.sb
    · rw [List.mem_singleton.mp hc]; exact k
theorem Te.up (h : Te K CT b p dxp tup sp hs M T s H) (x : Ex H H') : Te K CT b p dxp tup sp hs M T s H' := h.next (S := []) (fun _ m => nomatch m) (fun _ m => nomatch m) (exS x) (h.tl.up x) h.ok
theorem Te.next2 (h : Te K CT b p dxp tup sp hs M T s H) (x : ExS [p, sp] H H') (t : Tl CT p dxp tup sp s' H') (ok : StOk s') : Te K CT b p dxp tup sp hs M T s' H' := h.next h.s2 t.nn x t ok
theorem Te.next3 (h : Te K CT b p dxp tup sp hs M T s H) (kb : kd ∈ b) (x : ExS [p, sp, kd] H H') (t : Tl CT p dxp tup sp s' H') (k : KnD kd ρ l H') (ok : StOk s') : Te K CT b p dxp tup sp hs M T s' H' := h.next (h.s3 kb) (nn3 t k) x t ok
/-- a new cell that is held back too -/
theorem Te.new {q : Addr} (h : Te K CT b p dxp tup sp hs M T s H) (n : H q = none) (x : Ex H H') (e : H' q ≠ none) : Te K CT (q :: b) p dxp tup sp hs M T s H' := by
  obtain ⟨kvs, k1, k2⟩ := h.tr
  refine ⟨fun c hc => ?_, List.mem_cons_of_mem _ h.pb, List.mem_cons_of_mem _ h.sb, h.tl.up x, fun m => ?_, ⟨kvs, x _ _ k1, fun y t ht => ?_⟩, h.hT, h.ok⟩
  · rcases List.mem_cons.mp hc with rfl | hc
    · exact e
    · exact h.kn.up x c hc
  · rcases List.mem_cons.mp m with m | m
    · rw [m, n] at k1; cases k1
    · exact h.tb m
  · obtain ⟨a, q1, q2⟩ := k2 y t ht
    exact ⟨a, q1, dp_ex (hid_ex x) _ _ (Dq.hide q2 n)⟩
end
/-! ### how values and sayings end -/
def VEnd (CF CB CT p dxp tup sp : Addr) (H : Hp) (r : RV × Stt) (Q : VK) (E : XK) : Prop := match r.1 with
  | .w i => ∀ H', ExS [p, sp] H H' → Tl CT p dxp tup sp r.2 H' → Q (.int i) H'
  | .f i => ∀ dx Hf, H dx = none → ExS [p, sp] H Hf → Tl CT p dxp tup sp r.2 Hf → Hf dx = some (.xd [("number", .int i)]) → E (.ref CF) (some dx) Hf
  | .l => ∀ Hf, ExS [p, sp] H Hf → Tl CT p dxp tup sp r.2 Hf → E (.ref CB) none Hf
  | .s => False
def GEnd (CF CB CT p dxp tup sp kd : Addr) (c : Int) (H : Hp) (r : RG × Env' × Stt) (Q : VK) (E : XK) : Prop := match r.1 with
  | .n => ∀ H', ExS [p, sp, kd] H H' → Tl CT p dxp tup sp r.2.2 H' → KnD kd r.2.1 (c - r.2.2.l) H' → Q .non H'
  | .b i => ∀ H', ExS [p, sp, kd] H H' → Tl CT p dxp tup sp r.2.2 H' → KnD kd r.2.1 (c - r.2.2.l) H' → Q (.int i) H'
  | .f i => ∀ dx Hf, H dx = none → ExS [p, sp, kd] H Hf → Tl CT p dxp tup sp r.2.2 Hf → KnD kd r.2.1 (c - r.2.2.l) Hf → Hf dx = some (.xd [("number", .int i)]) → E (.ref CF) (some dx) Hf
  | .l => ∀ Hf, ExS [p, sp, kd] H Hf → Tl CT p dxp tup sp r.2.2 Hf → KnD kd r.2.1 (c - r.2.2.l) Hf → E (.ref CB) none Hf
  | .s => False
section
variable {K : PySem.W.Frag} {CF CB CT p dxp tup sp kd : Addr} {b : List Addr} {hs : Hds} {M : Nat} {T : Tt} {s s' : Stt} {H H1 : Hp} {ρ ρ' : Env'} {c l : Int} {Q Q' : VK} {E : XK}
/-- what is no worth goes on as it is -/
theorem VEnd.pass {r : RV} (q : VEnd CF CB CT p dxp tup sp H (r, s) Q E) (x : ExS [p, sp] H H1) (n : ∀ c ∈ [p, sp], H1 c ≠ none) (h : ∀ i, r = .w i → ∀ H', ExS [p, sp] H1 H' → Tl CT p dxp tup sp s H' → Q' (.int i) H') : VEnd CF CB CT p dxp tup sp H1 (r, s) Q' E := by
  cases r with
  | w i => exact fun H' x' t => h i rfl H' x' t
  | f i => exact fun dx Hf hd x' t hx => q dx Hf (exS_none x n hd) (x.trans x') t hx
  | l => exact fun Hf x' t => q Hf (x.trans x') t
  | s => exact q
/-- what is no worth, at the level of sayings -/
theorem GEnd.ret {r : RV} (q : GEnd CF CB CT p dxp tup sp kd c H (retV r, ρ, s) Q E) (x : ExS [p, sp, kd] H H1) (t1 : Tl CT p dxp tup sp s' H1) (k : KnD kd ρ (c - s.l) H1) (h : ∀ i, r = .w i → ∀ H', ExS [p, sp] H1 H' → Tl CT p dxp tup sp s H' → Q' (.int i) H') : VEnd CF CB CT p dxp tup sp H1 (r, s) Q' E := by
  have m3 : ∀ c ∈ [p, sp], c ∈ [p, sp, kd] := fun c hc => by
    rcases List.mem_cons.mp hc with rfl | hc
    · exact List.mem_cons_self
    · rw [List.mem_singleton.mp hc]; exact List.mem_cons_of_mem _ List.mem_cons_self
  cases r with
  | w i => exact fun H' x' t => h i rfl H' x' t
  | f i => exact fun dx Hf hd x' t hx => q dx Hf (exS_none x (nn3 t1 k) hd) (x.trans (x'.mono m3)) t (k.at t1 x') hx
  | l => exact fun Hf x' t => q Hf (x.trans (x'.mono m3)) t (k.at t1 x')
  | s => exact q
theorem mem23 : ∀ c ∈ [p, sp], c ∈ [p, sp, kd] := fun c hc => by
  rcases List.mem_cons.mp hc with rfl | hc
  · exact List.mem_cons_self
  · rw [List.mem_singleton.mp hc]; exact List.mem_cons_of_mem _ List.mem_cons_self
/-- what goes on otherwise at H1, from what was asked at H -/
theorem GEnd.pass {r : RG} (q : GEnd CF CB CT p dxp tup sp kd c H (r, ρ, s) Q E) (x : ExS [p, sp, kd] H H1) (n : ∀ c ∈ [p, sp, kd], H1 c ≠ none) (h : r = .n → ∀ H', ExS [p, sp, kd] H1 H' → Tl CT p dxp tup sp s H' → KnD kd ρ (c - s.l) H' → Q' .non H')
    (h2 : ∀ i, r = .b i → ∀ H', ExS [p, sp, kd] H1 H' → Tl CT p dxp tup sp s H' → KnD kd ρ (c - s.l) H' → Q' (.int i) H') : GEnd CF CB CT p dxp tup sp kd c H1 (r, ρ, s) Q' E := by
  cases r with
  | n => exact fun H' x' t k => h rfl H' x' t k
  | b i => exact fun H' x' t k => h2 i rfl H' x' t k
  | f i => exact fun dx Hf hd x' t k hx => q dx Hf (exS_none x n hd) (x.trans x') t k hx
  | l => exact fun Hf x' t k => q Hf (x.trans x') t k
  | s => exact q
theorem GEnd.same {r : RG × Env' × Stt} (q : GEnd CF CB CT p dxp tup sp kd c H r Q E) (x : ExS [p, sp, kd] H H1) (n : ∀ c ∈ [p, sp, kd], H1 c ≠ none) : GEnd CF CB CT p dxp tup sp kd c H1 r Q E := by
  obtain ⟨r, ρ, s⟩ := r
  refine q.pass x n (fun e => ?_) fun i e => ?_
  · subst e
    exact fun H' x' t k => q H' (x.trans x') t k
  · subst e
    exact fun H' x' t k => q H' (x.trans x') t k
end
/-- what is handed in with a value -/
structure VIn (K : PySem.W.Frag) (CT : Addr) (b : List Addr) (p dxp tup sp kd : Addr) (hs : Hds) (M : Nat) (T : Tt) (s : Stt) (ρ : Env') (u : V) (d : PyData) (m : Nat) (H : Hp) : Prop where
  te : Te K CT b p dxp tup sp hs M T s H
  kb : kd ∈ b
  kd : ∃ n, KnD kd ρ n H
  ρ : ρ.ok
  hu : Dq K b H u d
  hd : VaP hs m d
def spW (K : PySem.W.Frag) (CF CB CT : Addr) (k n : Nat) : Sp := fun vs H Q E => ∃ b p dxp tup sp kd hs M T s ρ u d, ∃ (deep m : Nat), vs = [.ref p, u, .ref kd, .int (deep : Nat)] ∧ (deep ≤ 12 ∧ 8 + (12 - deep) * 16 + m ≤ k) ∧ VIn K CT b p dxp tup sp kd hs M T s ρ u d m H ∧ VEnd CF CB CT p dxp tup sp H ((sem T n).v deep ρ s d) Q E
/-- what is handed in with sayings -/
structure GIn (K : PySem.W.Frag) (CT : Addr) (b : List Addr) (p dxp tup sp kd : Addr) (hs : Hds) (M : Nat) (T : Tt) (s : Stt) (ρ : Env') (c : Int) (u : V) (d : PyData) (H : Hp) : Prop where
  te : Te K CT b p dxp tup sp hs M T s H
  kb : kd ∈ b
  kd : KnD kd ρ (c - s.l) H
  c : c ≤ 1000
  ρ : ρ.ok
  hu : Dq K b H u d
def spGT (K : PySem.W.Frag) (CF CB CT : Addr) (k n : Nat) : Sp := fun vs H Q E => ∃ c b p dxp tup sp kd hs M T s ρ u ds, ∃ (deep w m : Nat), vs = [.ref p, u, .ref kd, .int (deep : Nat)] ∧ (deep ≤ 12 ∧ 8 + (12 - deep) * 16 + w + 3 * m ≤ k) ∧ GIn K CT b p dxp tup sp kd hs M T s ρ c u (.tuple ds) H ∧ (∀ d ∈ ds, SaP hs w m d) ∧ GEnd CF CB CT p dxp tup sp kd c H ((sem T n).g deep ρ s ds) Q E
def spG1 (K : PySem.W.Frag) (CF CB CT : Addr) (k n : Nat) : Sp := fun vs H Q E => ∃ c b p dxp tup sp kd hs M T s ρ u d, ∃ (deep w m : Nat), vs = [.ref p, u, .ref kd, .int (deep : Nat)] ∧ (deep ≤ 12 ∧ 8 + (12 - deep) * 16 + w + 3 * m ≤ k + 1) ∧ GIn K CT b p dxp tup sp kd hs M T s ρ c u d H ∧ SaP hs w m d ∧ GEnd CF CB CT p dxp tup sp kd c H (if s.l ≤ 0 then (.l, ρ, s) else sStep T (sem T n) deep ρ ⟨s.l - 1, s.said⟩ d) Q E
/-- a while, its beginning counted before; a try -/
def spWh (K : PySem.W.Frag) (CF CB CT : Addr) (k n : Nat) : Sp := fun vs H Q E => ∃ c b p dxp tup sp kd hs M T s ρ u v ss, ∃ (deep w m : Nat), vs = [.ref p, u, .ref kd, .int (deep : Nat)] ∧ (deep ≤ 12 ∧ 8 + (12 - deep) * 16 + w + 3 * m + 1 ≤ k) ∧ GIn K CT b p dxp tup sp kd hs M T s ρ c u (.tuple [.str "while", v, .tuple ss]) H ∧ VaP hs w v ∧ (∀ d ∈ ss, SaP hs w m d) ∧ GEnd CF CB CT p dxp tup sp kd c H (sStep T (sem T n) deep ρ s (.tuple [.str "while", v, .tuple ss])) Q E
def spTy (K : PySem.W.Frag) (CF CB CT : Addr) (k n : Nat) : Sp := fun vs H Q E => ∃ c b p dxp tup sp kd hs M T s ρ u y ss ts, ∃ (deep w m : Nat), vs = [.ref p, u, .ref kd, .int (deep : Nat)] ∧ (deep ≤ 12 ∧ 8 + (12 - deep) * 16 + w + 3 * m + 1 ≤ k) ∧ GIn K CT b p dxp tup sp kd hs M T s ρ (c - 1) u (.tuple [.str "try", .tuple ss, .str y, .tuple ts]) H ∧ (∀ d ∈ ss, SaP hs w m d) ∧ (∀ d ∈ ts, SaP hs w m d) ∧ c ≤ 1000 ∧ GEnd CF CB CT p dxp tup sp kd c H (sStep T (sem T n) deep ρ s (.tuple [.str "try", .tuple ss, .str y, .tuple ts])) Q E
def spCo (CB CT : Addr) : Sp := fun vs H Q E => ∃ p dxp tup sp s, vs = [.ref p] ∧ Tl CT p dxp tup sp s H ∧ (¬ s.l ≤ 0 → Q .non (upd H p (.ins CT dxp (tf tup sp (s.l - 1))))) ∧ (s.l ≤ 0 → E (.ref CB) none H)
/-- a tuple that is begun with numbers -/
def spGb (K : PySem.W.Frag) (CF CB CT : Addr) (k n : Nat) : Sp := fun vs H Q E => ∃ b p dxp tup sp hs M T s x t is u, ∃ (tp : Bool) (deep : Nat), vs = [.ref p, .str x, .ref u, .int (deep : Nat)] ∧ (deep ≤ 12 ∧ 8 + (12 - deep) * 16 + 15 ≤ k) ∧ Te K CT b p dxp tup sp hs M T s H ∧ T x = some t ∧ t.1.length = is.length ∧ (∀ i ∈ is, Wth i) ∧ SqB tp K H u (is.map V.int) ∧ VEnd CF CB CT p dxp tup sp H (outG ((sem T n).g deep (envOf t.1 is) s t.2).1, ((sem T n).g deep (envOf t.1 is) s t.2).2.2) Q E
def spCd (K : PySem.W.Frag) (CF CB CT : Addr) (k n : Nat) : Sp := fun vs H Q E => ∃ b p dxp tup sp hs M T s x t is u, ∃ (deep : Nat), vs = [.ref p, .str x, .ref u, .int (deep : Nat)] ∧ (deep ≤ 12 ∧ 8 + (12 - deep) * 16 ≤ k) ∧ Te K CT b p dxp tup sp hs M T s H ∧ T x = some t ∧ t.1.length = is.length ∧ (∀ i ∈ is, Wth i) ∧ SqL K H u (is.map V.int) ∧ VEnd CF CB CT p dxp tup sp H (callF T (sem T n) deep x is s) Q E
/-! ### the classes -/
structure TmC (K : PySem.W.Frag) (CT : Addr) (m q : Str) (st : Stmt) (ps : List Str) (f : Addr) (fd : FuncData) : Prop where
  at_ : Meth K CT m f
  F : Fun K m q st f fd
  b : Binds K fd ps []
structure TlC (K : PySem.W.Frag) (CT : Addr) : Prop where
  c : Cls K CT
  nT : NoAttr K CT "tuples"
  nL : NoAttr K CT "left"
  nS : NoAttr K CT "spoken"
structure TbC (K : PySem.W.Frag) (mg : Str → Option Value) (C : Addr) : Prop where
  m : mg "TooManyBegun" = some (.ref C)
  q : PySem.W.excIn K C exTail "Exception.__new__" = true
  kC : PySem.W.keepIn K (.ref C) = true
  sub : PySem.W.subIn K (.ref C) (.type "BaseException") = some true
  ty : PySem.W.typeIn K (.ref C) = some (.type "type")
abbrev s_co : Stmt := inClass (topS 17) 7
abbrev s_ty : Stmt := inClass (topS 17) 6
abbrev s_wh : Stmt := inClass (topS 17) 5
abbrev s_g1 : Stmt := inClass (topS 17) 4
abbrev s_gt : Stmt := inClass (topS 17) 3
abbrev s_gb : Stmt := inClass (topS 17) 2
abbrev s_wo : Stmt := inClass (topS 17) 8
abbrev s_cd : Stmt := inClass (topS 17) 9
abbrev PaW : List Str := ["self", "value", "known", "deep"]
abbrev PaS : List Str := ["self", "saying", "known", "deep"]
abbrev PaL : List Str := ["self", "sayings", "known", "deep"]
abbrev PaG : List Str := ["self", "part", "numbers", "deep"]
abbrev NWv : List Str := ["self", "value", "known", "deep", "word", "one", "other", "fault", "worth", "inner"]
theorem sc_wo : FnScope NWv PaW (defScope s_wo) := ⟨rfl, rfl, rfl, by decide +kernel, rfl, by decide +kernel, by decide +kernel⟩
theorem sc_co : FnScope ["self"] ["self"] (defScope s_co) := ⟨rfl, rfl, rfl, by decide +kernel, rfl, by decide +kernel, by decide +kernel⟩
abbrev NTy : List Str := ["self", "saying", "known", "deep", "fault"]
theorem sc_ty : FnScope NTy PaS (defScope s_ty) := ⟨rfl, rfl, rfl, by decide +kernel, rfl, by decide +kernel, by decide +kernel⟩
abbrev NG1 : List Str := ["self", "saying", "known", "deep", "word", "worth"]
theorem sc_g1 : FnScope NG1 PaS (defScope s_g1) := ⟨rfl, rfl, rfl, by decide +kernel, rfl, by decide +kernel, by decide +kernel⟩
abbrev NWh : List Str := ["self", "saying", "known", "deep", "worth"]
theorem sc_wh : FnScope NWh PaS (defScope s_wh) := ⟨rfl, rfl, rfl, by decide +kernel, rfl, by decide +kernel, by decide +kernel⟩
abbrev NGt : List Str := ["self", "sayings", "known", "deep", "saying", "worth"]
theorem sc_gt : FnScope NGt PaL (defScope s_gt) := ⟨rfl, rfl, rfl, by decide +kernel, rfl, by decide +kernel, by decide +kernel⟩
abbrev NGb : List Str := ["self", "part", "numbers", "deep", "names", "sayings", "known", "worth", "name", "number"]
theorem sc_gb : FnScope NGb PaG (defScope s_gb) := ⟨rfl, rfl, rfl, by decide +kernel, rfl, by decide +kernel, by decide +kernel⟩
theorem sc_cd : FnScope PaG PaG (defScope s_cd) := ⟨rfl, rfl, rfl, by decide +kernel, rfl, by decide +kernel, by decide +kernel⟩
section
variable {X : Cx} {C fI : Addr} {fdI : FuncData} {e : Expr} {te : TE} {p pos rpos : Pos} {W : WX}
theorem ps_ftN (T : FtC X.K X.mg C fI fdI) (hc : X.calm = true) (tk : L2N.Takes X W) (hr : Room 2 X.A) (ha : PE X e te) (hg : Gl X "Fault" := by rfl)
    (he : starEach [e] X.env = (false, eval e X.env) :: starEach [] X.env := by rfl) : PS X (.Raise (some (.Call (.Name "Fault" p) [e] [] pos)) none rpos) (fun _ σ H => tMkO C (spFti X.K) [] (tCons te tNil) σ H fun cls d H' => W cls d σ H') :=
  L2N.ps_raise hc tk (pmk_tN T.T T.i T.t (ok_fti (P := X.prog) (w := X.w) (base := X.base) T) hr T.b pass0 hg T.m (pa_cons ha pa_nil he) (by decide) he rfl)
end
section
variable {P : Program} {w : World} {K : PySem.W.Frag} {mg : Str → Option Value} {base : Heap} {CB CT f : Addr} {fd : FuncData}
theorem ok_co (C : TlC K CT) (TB : TbC K mg CB) (M : TmC K CT "count_one" "Telling.count_one" s_co ["self"] f fd) : FnOk P w K mg base (L2N.CX P w) 1 f fd ["self"] (spCo CB CT) := by
  refine okN M.F sc_co (fun vs H Q E ⟨p, dxp, tup, sp, s, e, _⟩ => by rw [e]; rfl) (fun cdv A outer sh H vs Q E hr h => ?_)
  obtain ⟨p, dxp, tup, sp, s, rfl, tl, q1, q2⟩ := h
  refine ⟨_, pss_cons (ps_if (pt_cmpR op_le (pe_fld (pv 0) rfl) pe_int (nomark _)) (pss_one (L2N.ps_raise (W := fun cls d _ H => E cls d H) rfl (L2N.takes_of rfl rfl rfl rfl) (L2N.pmk_own F.excBase_Exception TB.q TB.m TB.kC (raises_own TB.sub TB.ty) rfl))) pss_nil) (pss_one (ps_fldaug (pv 0) pe_int in_sub)), ?_⟩
  refine ⟨.ref p, rfl, p, CT, dxp, _, .int s.l, rfl, tl.ins, C.c, C.nL, rfl, s.l, 0, rfl, rfl, _, rfl, ?_⟩
  by_cases hl : s.l ≤ 0
  · rw [decide_eq_true hl]
    show ite (true = true) _ _
    rw [if_pos rfl]
    exact q2 hl
  · rw [decide_eq_false hl]
    show ite (false = true) _ _
    rw [if_neg Bool.false_ne_true]
    exact ⟨.ref p, rfl, p, CT, dxp, _, .int s.l, rfl, tl.ins, C.c, C.nL, rfl, s.l, 1, rfl, rfl, dxp, _, tl.ins, by show 3 < 1000; decide, q1 hl⟩
end
end Wr

set_option Elab.async false
set_option linter.all false
set_option maxRecDepth 100000
set_option maxHeartbeats 4000000
namespace Wr
open PySem PySem.Spec PyProof.Rows L2 Evl
/-- what came first, ahead of what is to come -/
def addV (is : List Int) (r : (RV ⊕ List Int) × Stt) : (RV ⊕ List Int) × Stt := match r with
  | (.inr js, s) => (.inr (is ++ js), s)
  | (.inl r, s) => (.inl r, s)
theorem addV_add (a b : List Int) (r : (RV ⊕ List Int) × Stt) : addV a (addV b r) = addV (a ++ b) r := by
  obtain ⟨r | r, s⟩ := r
  · rfl
  · show ((.inr (a ++ (b ++ r)) : RV ⊕ List Int), s) = (.inr (a ++ b ++ r), s)
    rw [List.append_assoc]
theorem addV_nil (r : (RV ⊕ List Int) × Stt) : addV [] r = r := by obtain ⟨r | r, s⟩ := r <;> rfl
section
variable {V : Stt → PyData → RV × Stt} {s s1 : Stt} {d : PyData} {ds : List PyData}
theorem vals_w {j : Int} (h : V s d = (.w j, s1)) : valsF V s (d :: ds) = addV [j] (valsF V s1 ds) := by
  rw [valsF, h]
  dsimp only
  rcases valsF V s1 ds with ⟨r | r, s2⟩ <;> rfl
theorem vals_n {r : RV} (h : V s d = (r, s1)) (hr : ∀ j, r ≠ .w j) : valsF V s (d :: ds) = (.inl r, s1) := by
  rw [valsF, h]
  cases r with
  | w j => exact absurd rfl (hr j)
  | f j => rfl
  | l => rfl
  | s => rfl
end
def goF (T : Tt) (F : Sem) (deep : Nat) (x : Str) (r : (RV ⊕ List Int) × Stt) : RV × Stt := match r with
  | (.inl r, s1) => (r, s1)
  | (.inr is, s1) => callF T F deep x is s1
theorem v_call' {T : Tt} {F : Sem} {deep : Nat} {ρ : Env'} {s : Stt} {x : Str} {ds : List PyData} : vStep T F deep ρ s (.tuple [.str "call", .str x, .tuple ds]) = goF T F deep x (valsF (fun s d => F.v deep ρ s d) s ds) := by
  rw [v_call]
  show (match valsF (fun s d => F.v deep ρ s d) s ds with
      | (.inl r, s1) => (r, s1)
      | (.inr is, s1) => callF T F deep x is s1) = _
  rcases valsF (fun s d => F.v deep ρ s d) s ds with ⟨r | r, s2⟩ <;> rfl
theorem bigW {f : Int} (h : Wth f) : f.natAbs < 10 ^ 45 := by
  have big : (1000000000001 : Nat) < 10 ^ 45 := by decide
  have := h.1; have := h.2
  omega
section
variable {P : Program} {w : World} {K : PySem.W.Frag} {mg : Str → Option Value} {base : Heap} {CF fI CB CT fW fC g g2 g3 : Addr} {fdI fdW fdC gd gd2 gd3 : FuncData}
theorem ok_wo0 {k : Nat} : FnOk P w K mg base (L2N.CX P w) k fW fdW PaW (spW K CF CB CT k 0) := fnok_none fun vs H Q E ⟨b, p, dxp, tup, sp, kd, hs, M, T, s, ρ, u, d, deep, m, _, _, _, q⟩ => q
theorem ok_wo (n k : Nat) (T : FtC K mg CF fI fdI) (C : TlC K CT) (M : TmC K CT "worth_of" "Telling.worth_of" s_wo PaW fW fdW) (IH : FnOk P w K mg base (L2N.CX P w) k fW fdW PaW (spW K CF CB CT k n))
    (M2 : TmC K CT "called" "Telling.called" s_cd PaG fC fdC) (G2 : FnOk P w K mg base (L2N.CX P w) k fC fdC PaG (spCd K CF CB CT k n))
    (D1 : Def K mg "op_outcome" s_oo ["op", "one", "other"] g gd) (G1 : FnOk P w K mg base CX0 3 g gd ["op", "one", "other"] (spP K OpPre (opOf fun o i j => outD (opR o i j)))) (B : Blt mg) {t : Tok} (mN : mg "NOT_SET" = some (.int (-3) t)) :
    FnOk P w K mg base (L2N.CX P w) (k + 1) fW fdW PaW (spW K CF CB CT (k + 1) (n + 1)) := by
  refine okN M.F sc_wo (fun vs H Q E ⟨b, p, dxp, tup, sp, kd, hs, M, T, s, ρ, u, d, deep, m, e, _⟩ => by rw [e]; rfl) (fun cdv A outer sh H vs Q E hr h => ?_)
  obtain ⟨b, p, dxp, tup, sp, kd, hs, MM, TT, s, ρ, u, d, deep, m, rfl, h12, I, q⟩ := h
  have r3 : Room 3 _ := hr.mono (by omega)
  have r2 : Room 2 _ := hr.mono (by omega)
  refine ⟨_, pss_cons (ps_if (pt_not (pt_val (pe_callB call_isi rfl B.isi bb_isinstance (pa_cons (pv 1) (pa_cons (pe_tyN rfl B.tuple bt_tuple) pa_nil))))) (pss_one (ps_ret (pv 1))) pss_nil)
      (pss_cons (ps_set (i := 4) sc_wo.nd rfl (Or.inl rfl) (pe_ix ix_tup (pv 1) pe_int (fun _ _ => rfl)))
      (pss_cons (ps_if (pt_cmpR (op_eqD (hu64 hr)) (pv 4) pe_str (nomark _))
        (pss_cons (ps_if (pt_cmp (pc_dnotin (hu1 hr) (pe_ix ix_tup (pv 1) pe_int (fun _ _ => rfl)) (pv 2)) rfl) (pss_one (ps_ftN (W := fun cls d _ H => E cls d H) T rfl (L2N.takes_of rfl rfl rfl rfl) r2 (pe_gI mN))) pss_nil)
        (pss_one (ps_ret (pe_dget (hu1 hr) (pv 2) (pe_ix ix_tup (pv 1) pe_int (fun _ _ => rfl)) (fun _ _ => rfl))))) pss_nil)
      (pss_cons (ps_if (pt_cmpR (op_eqD (hu64 hr)) (pv 4) pe_str (nomark _)) (pss_one (ps_ret (pe_methX (E := WE fun cls d _ H => E cls d H) (pv 0) C.c M2.at_ G2 hr M2.b (fun σ => L2N.passAt (L2N.takes_of rfl rfl rfl rfl) σ)
          (pa_cons (pe_ix ix_tup (pv 1) pe_int (fun _ _ => rfl)) (pa_cons (pe_lcX (Eb := E) (own := [("inner", 9)]) (g := gName 9) (tt := tYes) rfl sc_wo.nd rfl rfl (L2N.takes_of rfl rfl rfl rfl) (pi_tup (pe_ix ix_tup (pv 1) pe_int (fun _ _ => rfl))) (blkOk_by (N := NWv) (sc := defScope s_wo) (by decide +kernel))
            (fun _ _ _ _ _ _ => pg_name (i := 9) sc_wo.nd rfl (Or.inl rfl)) (fun _ _ _ _ _ _ => pts_nil)
            (fun _ _ _ _ _ _ hx => pe_methX (E := fun _ => E) (pv 0) C.c M.at_ IH hr M.b hx (pa_cons (pv 9) (pa_cons (pv 2) (pa_cons (pv 3) pa_nil))))) (pa_cons (pv 3) pa_nil)))))) pss_nil)
      (pss_cons (ps_set (i := 5) sc_wo.nd rfl (Or.inl rfl) (pe_methX (E := WE fun cls d _ H => E cls d H) (pv 0) C.c M.at_ IH hr M.b (fun σ => L2N.passAt (L2N.takes_of rfl rfl rfl rfl) σ) (pa_cons (pe_ix ix_tup (pv 1) pe_int (fun _ _ => rfl)) (pa_cons (pv 2) (pa_cons (pv 3) pa_nil)))))
      (pss_cons (ps_set (i := 6) sc_wo.nd rfl (Or.inl rfl) (pe_methX (E := WE fun cls d _ H => E cls d H) (pv 0) C.c M.at_ IH hr M.b (fun σ => L2N.passAt (L2N.takes_of rfl rfl rfl rfl) σ) (pa_cons (pe_ix ix_tup (pv 1) pe_int (fun _ _ => rfl)) (pa_cons (pv 2) (pa_cons (pv 3) pa_nil)))))
      (pss_cons (ps_asg (pe_cd D1 G1 r3 (pa_cons (pv 4) (pa_cons (pv 5) (pa_cons (pv 6) pa_nil)))) (pg_tup rfl (pgs_cons (pg_name (i := 7) sc_wo.nd rfl (Or.inl rfl)) (pgs_cons (pg_name (i := 8) sc_wo.nd rfl (Or.inl rfl)) pgs_nil))))
      (pss_cons (ps_if (pt_cmp (pc_notN (pv 7))) (pss_one (ps_ftN (W := fun cls d _ H => E cls d H) T rfl (L2N.takes_of rfl rfl rfl rfl) r2 (pv 7))) pss_nil)
      (pss_one (ps_ret (pv 8)))))))))), ?_⟩
  have hsl : sizeLine = 16777216 := sizeLine_eq
  have S := sem_ok I.te.hT n
  obtain ⟨kn0, hkd⟩ := I.kd
  have hu := I.hu
  have te := I.te
  have hdd := I.hd
  have t1 := et_n (et_b (ed_isi (K := K) (b := b) (σ := start NWv [.ref p, u, .ref kd, .int (deep : Nat)]) (H := H) (T := "tuple") (.inr (.inr (.inr (.inl rfl)))) (ed_var (i := 1) rfl hu)))
  refine g_ifE (K := K) t1 fun H1 x1 => ?_
  have q : VEnd CF CB CT p dxp tup sp H (vStep TT (sem TT n) deep ρ s d) Q E := q
  have hp := te.tl.ins
  have nn1 : ∀ {H'}, Ex H H' → ∀ c ∈ [p, sp], H' c ≠ none := fun x => (te.tl.up x).nn
  cases hdd with
  | @num j0 i hi =>
    have eu := dq_int hu
    subst eu
    exact ⟨.int i, rfl, q H1 (exS x1) (te.tl.up x1)⟩
  | @name j0 y hy =>
    show tNext _ _ _
    refine gnext ?_
    refine g_set (ed_ixT (K := K) (b := b) (ed_var (i := 1) rfl (Dq.up hu x1)) (ed_int (i := 0)) (atI0 _ _)) fun v4 H2 x2 h4 => ?_
    have e4 := dq_str h4
    subst e4
    have t2 := et_t (ed_eq (K := K) (b := b) (ed_var (σ := [some (.ref p), some u, some (.ref kd), some (.int (deep : Nat)), some (.str "name"), none, none, none, none, none]) (H := H2) (i := 4) (d := .str "name") rfl (.str _)) (ed_str (x := "name")) (sh_str (by decide +kernel)) (sh_str (by decide +kernel)))
    rw [strEq, decide_eq_true rfl] at t2
    refine g_yes t2 fun H3 x3 => ?_
    have x13 := (x1.trans x2).trans x3
    have i1 := ed_ixT (K := K) (b := b) (σ := [some (V.ref p), some u, some (.ref kd), some (.int (deep : Nat)), some (.str "name"), none, none, none, none, none]) (ed_var (i := 1) rfl (Dq.up hu x13)) (ed_int (i := 1)) (atI1 (PyData.str "name") (.str y) [])
    refine i1 H3 (Ex.refl H3) _ fun vy H4 x4 hvy => ?_
    have ey := dq_str hvy
    subst ey
    obtain ⟨kvs, hk, hkl, hkv⟩ := hkd.up (x13.trans x4)
    refine ⟨.ref kd, rfl, kd, _, rfl, DGet.k (k := Sum.inr y) hk, _, rfl, ?_⟩
    rw [hkv y]
    have q : VEnd CF CB CT p dxp tup sp H (match ρ y with
      | some w => (.w w, s)
      | none => (.f (-3), s)) Q E := q
    cases hy' : ρ y with
    | none =>
      rw [hy'] at q
      have q : ∀ dx Hf, H dx = none → ExS [p, sp] H Hf → Tl CT p dxp tup sp s Hf → Hf dx = some (.xd [("number", .int (-3))]) → E (.ref CF) (some dx) Hf := q
      show ite (true = true) _ _
      rw [if_pos rfl]
      refine mk_ft T.T T.n (by decide) ⟨rfl, rfl⟩ (fun dx Hf hd xf hx => ?_) fun Q Q' hq z => hq _ _ z
      have xx := (x13.trans x4).trans xf
      exact q dx Hf (by
        cases z : H dx with
        | none => rfl
        | some o => rw [x13.trans x4 _ _ z] at hd; cases hd) (exS xx) (te.tl.up xx) hx
    | some w' =>
      rw [hy'] at q
      show ite (false = true) _ _
      rw [if_neg Bool.false_ne_true]
      refine gnext ?_
      refine ⟨.ref kd, rfl, ?_⟩
      refine i1 H4 x4 _ fun vy2 H5 x5 hy2 => ?_
      have ey2 := dq_str hy2
      subst ey2
      have hg : DGet H5 kd (.str y) (some (.int w')) := by
        have := DGet.k (k := Sum.inr y) (x5 _ _ hk)
        rw [hkv y, hy'] at this
        exact this
      have xx := (x13.trans x4).trans x5
      exact ⟨kd, .int w', rfl, hg, q H5 (exS xx) (te.tl.up xx)⟩
  | @call j0 x ds hx ho hds =>
    rw [v_call'] at q
    show tNext _ _ _
    refine gnext ?_
    refine g_set (ed_ixT (K := K) (b := b) (ed_var (i := 1) rfl (Dq.up hu x1)) (ed_int (i := 0)) (atI0 _ _)) fun v4 H2 x2 h4 => ?_
    have e4 := dq_str h4
    subst e4
    have tw : ∀ (x : Str) (H' : Hp), PyData.strOk x = true → EvT (tTest (tOp (rEqD K) (tVar 4) (tC (.str x)))) [some (.ref p), some u, some (.ref kd), some (.int (deep : Nat)), some (.str "call"), none, none, none, none, none] H' (decide (("call" : Str) = x)) := fun x H' hx => by
      have := et_t (ed_eq (K := K) (b := b) (ed_var (σ := [some (.ref p), some u, some (.ref kd), some (.int (deep : Nat)), some (.str "call"), none, none, none, none, none]) (H := H') (i := 4) (d := .str "call") rfl (.str _)) (ed_str (x := x)) (sh_str (by decide +kernel)) (sh_str hx))
      rw [strEq] at this
      exact this
    refine g_no (tw "name" H2 (by decide +kernel)) fun H3 x3 => ?_
    refine g_yes (by have z := tw "call" H3 (by decide +kernel); rw [decide_eq_true rfl] at z; exact z) fun H4 x4 => ?_
    have x14 := ((x1.trans x2).trans x3).trans x4
    refine ⟨.ref p, rfl, p, dxp, _, rfl, x14 _ _ hp, rfl, ?_⟩
    refine (ed_ixT (K := K) (b := b) (σ := [some (.ref p), some u, some (.ref kd), some (.int (deep : Nat)), some (.str "call"), none, none, none, none, none]) (ed_var (i := 1) rfl (Dq.up hu x14)) (ed_int (i := 1)) (atI1 (PyData.str "call") (.str x) [.tuple ds])) H4 (Ex.refl H4) _ fun vx H5 x5 hvx => ?_
    have ex := dq_str hvx
    subst ex
    have x15 := x14.trans x5
    refine (ed_ixT (K := K) (b := b) (σ := [some (.ref p), some u, some (.ref kd), some (.int (deep : Nat)), some (.str "call"), none, none, none, none, none]) (ed_var (i := 1) rfl (Dq.up hu x15)) (ed_int (i := 2)) (atI2 (PyData.str "call") (.str x) (.tuple ds) [])) H5 (Ex.refl H5) _ fun vds H6 x6 hvds => ?_
    have x16 := x15.trans x6
    have te6 := te.up x16
    cases hvds with
    | @tup at0 xs _ g1 gN g2 =>
    have lxs := dps_len g2
    refine ⟨at0, rfl, ⟨xs, ex_t hid_le g1⟩, fun D hD => ?_⟩
    have Dp : D ∉ [p, sp] := fun m => te6.tl.nn _ m hD
    have pD : p ≠ D := fun h => te6.tl.nn p List.mem_cons_self (by rw [h]; exact hD)
    have sD : sp ≠ D := fun h => te6.tl.nn sp (List.mem_cons_of_mem _ List.mem_cons_self) (by rw [h]; exact hD)
    have l10 := te.hT.k3 _ hx
    have l10 : ds.length ≤ 10 := l10
    refine lc_it (walk_tup (xs := xs)) (fun i H' => ∃ si is, ExS [p, sp] H6 H' ∧ Tl CT p dxp tup sp si H' ∧ SttLe s si ∧ (∀ j ∈ is, Wth j) ∧ is.length = i ∧ H' D = some (.lst (is.map V.int)) ∧ VEnd CF CB CT p dxp tup sp H (goF TT (sem TT n) deep x (addV is (valsF (fun s d => (sem TT n).v deep ρ s d) si (ds.drop i)))) Q E)
      ⟨s, [], exS (Ex.new hD), te6.tl.up (Ex.new hD), SttLe.refl s, fun j m => (nomatch m), rfl, upd_same, by rw [addV_nil, List.drop_zero]; exact q⟩ (fun i H' _ ⟨si, is, x', _⟩ => ?_) ?_ ?_
    · exact ex_t (hid_exS te.s2 x') g1 |> fun z => ex_t hid_le z
    · rintro i y H70 H7 hi ⟨si, is, x7, t7, le7, w7, l7, d7, q7⟩ ⟨eH, hy⟩
      subst eH
      obtain ⟨e, hei, de⟩ := dps_at g2 hy
      obtain ⟨hil, eei⟩ := List.getElem?_eq_some_iff.mp hei
      have edr := List.drop_eq_getElem_cons hil
      rw [eei] at edr
      rw [edr] at q7
      have hem := List.mem_of_getElem? hei
      have te7 := te6.next2 x7 t7 (te.ok.le le7)
      have hkd7 := (hkd.up x16).at te6.tl x7
      have vok := S.v deep ρ si e j0 I.ρ (hds e hem)
      refine ⟨rfl, et_yes (H := H7) _ (Ex.refl _) _ fun H8 x8 => ?_⟩
      rw [if_pos rfl]
      have te8 := te7.up x8
      have xx8 : ExS [p, sp] H H8 := ((exS x16).trans x7).trans (exS x8)
      refine ⟨.ref p, rfl, p, dxp, _, rfl, te8.tl.ins, rfl, y, rfl, .ref kd, rfl, .int (deep : Nat), rfl, b, p, dxp, tup, sp, kd, hs, MM, TT, si, ρ, y, e, deep, j0, rfl, (by omega), ⟨te8, I.kb, ⟨_, hkd7.up x8⟩, I.ρ, exS_dq te.s2 (x7.trans (exS x8)) de, hds e hem⟩, ?_⟩
      rcases er : (sem TT n).v deep ρ si e with ⟨r, s1⟩
      rw [er] at vok
      cases r with
      | w j =>
        intro H9 x9 t9
        rw [vals_w er, addV_add] at q7
        have d9 := x9 _ _ Dp (x8 _ _ d7)
        refine ⟨_, d9, by rw [List.length_map, l7, hsl]; omega, s1, is ++ [j], fun c o m z => ?_, ?_, le7.trans vok.1, fun z hz => ?_, by rw [List.length_append, l7, List.length_singleton], by rw [upd_same, List.map_append]; rfl, q7⟩
        · have cD : c ≠ D := fun h => by rw [h, hD] at z; cases z
          rw [upd_ne cD]
          exact x9 _ _ m (x8 _ _ (x7 _ _ m z))
        · exact ⟨by rw [upd_ne pD]; exact t9.ins, by rw [upd_ne sD]; exact t9.spk⟩
        · rcases List.mem_append.mp hz with hz | hz
          · exact w7 z hz
          · rw [List.mem_singleton.mp hz]; exact vok.2 j (.inl rfl)
      | f j =>
        rw [vals_n er (fun _ h => nomatch h)] at q7
        have q7 : VEnd CF CB CT p dxp tup sp H (.f j, s1) Q E := q7
        exact q7.pass (Q' := Q) xx8 te8.tl.nn fun _ h => nomatch h
      | l =>
        rw [vals_n er (fun _ h => nomatch h)] at q7
        have q7 : VEnd CF CB CT p dxp tup sp H (.l, s1) Q E := q7
        exact q7.pass (Q' := Q) xx8 te8.tl.nn fun _ h => nomatch h
      | s =>
        rw [vals_n er (fun _ h => nomatch h)] at q7
        exact q7
    · rintro H7 ⟨si, is, x7, t7, le7, w7, l7, d7, q7⟩
      rw [lxs, List.drop_length] at q7
      have q7 : VEnd CF CB CT p dxp tup sp H (callF TT (sem TT n) deep x (is ++ []) si) Q E := q7
      rw [List.append_nil] at q7
      obtain ⟨t, et, el⟩ := te.hT.at_ x _ hx
      have te7 := te6.next2 x7 t7 (te.ok.le le7)
      refine ⟨.int (deep : Nat), rfl, b, p, dxp, tup, sp, hs, MM, TT, si, x, t, is, D, deep, rfl, (by omega), te7, et, by rw [el, l7, lxs], w7, .inl (.inl d7), ?_⟩
      have xx : ExS [p, sp] H H7 := (exS x16).trans x7
      rcases er : callF TT (sem TT n) deep x is si with ⟨r, s1⟩
      rw [er] at q7
      refine q7.pass xx t7.nn fun i e H' x' t => ?_
      subst e
      exact q7 H' (xx.trans x') t
  | @op j0 o va vb ho hva hvb =>
    rw [v_op ho] at q
    have ho' := opW_not ho
    have hso := opW_ok ho
    show tNext _ _ _
    refine gnext ?_
    refine g_set (ed_ixT (K := K) (b := b) (ed_var (i := 1) rfl (Dq.up hu x1)) (ed_int (i := 0)) (atI0 _ _)) fun v4 H2 x2 h4 => ?_
    have e4 := dq_str h4
    subst e4
    have tw : ∀ (x : Str) (H' : Hp), PyData.strOk x = true → EvT (tTest (tOp (rEqD K) (tVar 4) (tC (.str x)))) [some (.ref p), some u, some (.ref kd), some (.int (deep : Nat)), some (.str o), none, none, none, none, none] H' (decide (o = x)) := fun x H' hx => by
      have := et_t (ed_eq (K := K) (b := b) (ed_var (σ := [some (.ref p), some u, some (.ref kd), some (.int (deep : Nat)), some (.str o), none, none, none, none, none]) (H := H') (i := 4) (d := .str o) rfl (.str _)) (ed_str (x := x)) (sh_str hso) (sh_str hx))
      rw [strEq] at this
      exact this
    refine g_no (by have z := tw "name" H2 (by decide +kernel); rw [decide_eq_false ho'.1] at z; exact z) fun H3 x3 => ?_
    refine g_no (by have z := tw "call" H3 (by decide +kernel); rw [decide_eq_false ho'.2] at z; exact z) fun H4 x4 => ?_
    have x14 := ((x1.trans x2).trans x3).trans x4
    refine ⟨.ref p, rfl, p, dxp, _, rfl, x14 _ _ hp, rfl, ?_⟩
    refine (ed_ixT (K := K) (b := b) (σ := [some (.ref p), some u, some (.ref kd), some (.int (deep : Nat)), some (.str o), none, none, none, none, none]) (ed_var (i := 1) rfl (Dq.up hu x14)) (ed_int (i := 1)) (atI1 (PyData.str o) va [vb])) H4 (Ex.refl H4) _ fun ua H5 x5 ha => ?_
    have x15 := x14.trans x5
    have te5 := te.up x15
    have vok := S.v deep ρ s va j0 I.ρ hva
    refine ⟨.ref kd, rfl, .int (deep : Nat), rfl, b, p, dxp, tup, sp, kd, hs, MM, TT, s, ρ, ua, va, deep, j0, rfl, (by omega), ⟨te5, I.kb, ⟨_, hkd.up x15⟩, I.ρ, ha, hva⟩, ?_⟩
    rcases er : (sem TT n).v deep ρ s va with ⟨r, s1⟩
    rw [er] at vok q
    cases r with
    | f j => exact q.pass (exS x15) te5.tl.nn fun _ h => nomatch h
    | l => exact q.pass (exS x15) te5.tl.nn fun _ h => nomatch h
    | s => exact q
    | w i =>
    intro H6 x6 t6
    show tSeq _ _ _ [some (.ref p), some u, some (.ref kd), some (.int (deep : Nat)), some (.str o), some (.int i), none, none, none, none] H6
    have te6 := te5.next2 x6 t6 (te.ok.le vok.1)
    have x06 : ExS [p, sp] H H6 := (exS x15).trans x6
    refine ⟨.ref p, rfl, p, dxp, _, rfl, te6.tl.ins, rfl, ?_⟩
    refine (ed_ixT (K := K) (b := b) (σ := [some (.ref p), some u, some (.ref kd), some (.int (deep : Nat)), some (.str o), some (.int i), none, none, none, none]) (ed_var (i := 1) rfl (exS_dq te.s2 x06 hu)) (ed_int (i := 2)) (atI2 (PyData.str o) va vb [])) H6 (Ex.refl H6) _ fun ub H7 x7 hb => ?_
    have te7 := te6.up x7
    have x07 : ExS [p, sp] H H7 := x06.trans (exS x7)
    have vok2 := S.v deep ρ s1 vb j0 I.ρ hvb
    have wi := vok.2 i (.inl rfl)
    refine ⟨.ref kd, rfl, .int (deep : Nat), rfl, b, p, dxp, tup, sp, kd, hs, MM, TT, s1, ρ, ub, vb, deep, j0, rfl, (by omega), ⟨te7, I.kb, ⟨_, hkd.at te.tl x07⟩, I.ρ, hb, hvb⟩, ?_⟩
    dsimp only at q
    rcases er2 : (sem TT n).v deep ρ s1 vb with ⟨r2, s2⟩
    rw [er2] at vok2 q
    cases r2 with
    | f j => exact q.pass x07 te7.tl.nn fun _ h => nomatch h
    | l => exact q.pass x07 te7.tl.nn fun _ h => nomatch h
    | s => exact q
    | w j =>
    intro H8 x8 t8
    show tSeq _ _ _ [some (.ref p), some u, some (.ref kd), some (.int (deep : Nat)), some (.str o), some (.int i), some (.int j), none, none, none] H8
    have te8 := te7.next2 x8 t8 ((te.ok.le vok.1).le vok2.1)
    have x08 : ExS [p, sp] H H8 := x07.trans x8
    have wj := vok2.2 j (.inl rfl)
    have ho2 := ed_call (K := K) (b := b) (σ := [some (.ref p), some u, some (.ref kd), some (.int (deep : Nat)), some (.str o), some (.int i), some (.int j), none, none, none]) (pre := OpPre) (f := opOf fun o i j => outD (opR o i j)) (E := E0) te8.kn (ea_cons (ed_var (i := 4) (d := .str o) rfl (.str _)) (ea_cons (ed_var (i := 5) (d := .int i) rfl (.int _)) (ea_cons (ed_var (i := 6) (d := .int j) rfl (.int _)) ea_nil))) ⟨o, i, j, rfl, ho, wi, wj⟩
    refine ho2 H8 (Ex.refl H8) _ fun vo H9 x9 hvo => ?_
    have hvo' : Dq K b H9 vo (outD (opR o i j)) := hvo
    have te9 := te8.up x9
    have x09 : ExS [p, sp] H H9 := x08.trans (exS x9)
    dsimp only at q
    cases hR : opR o i j with
    | inl f =>
      rw [hR] at hvo' q
      cases hvo' with
      | tup g1 _ g2 =>
      cases g2 with
      | cons p1 g2 =>
      cases g2 with
      | cons p2 g2 =>
      cases g2
      have e1 := dq_int p1
      subst e1
      cases p2
      refine ⟨_, _, rfl, ex_t hid_le g1, rfl, _, _, rfl, _, _, rfl, rfl, ?_⟩
      refine ⟨.int f, rfl, _, rfl, ?_⟩
      show ite (true = true) _ _
      rw [if_pos rfl]
      refine mk_ft T.T T.n ?_ ⟨.int f, rfl, rfl, rfl⟩ (fun dx Hf hd xf hx => ?_) fun Q Q' hq ⟨v, e, z⟩ => ⟨v, e, hq _ _ z⟩
      · rcases opR_f hR with rfl | rfl <;> decide
      · exact q dx Hf (exS_none x09 te9.tl.nn hd) (x09.trans (exS xf)) (te9.tl.up xf) hx
    | inr w' =>
      rw [hR] at hvo' q
      cases hvo' with
      | tup g1 _ g2 =>
      cases g2 with
      | cons p1 g2 =>
      cases g2 with
      | cons p2 g2 =>
      cases g2
      cases p1
      have e2 := dq_int p2
      subst e2
      refine ⟨_, _, rfl, ex_t hid_le g1, rfl, _, _, rfl, _, _, rfl, rfl, ?_⟩
      refine ⟨.non, rfl, _, rfl, ?_⟩
      show ite (false = true) _ _
      rw [if_neg Bool.false_ne_true]
      exact ⟨.int w', rfl, q H9 x09 te9.tl⟩
end
end Wr

set_option Elab.async false
set_option linter.all false
set_option maxRecDepth 100000
set_option maxHeartbeats 4000000
namespace Wr
open PySem PySem.Spec PyProof.Rows L2 Evl
theorem putAll_snoc : ∀ {ρ : Env'} {ys : List Str} {is : List Int} {y : Str} {i : Int}, ys.length = is.length → putAll ρ (ys ++ [y]) (is ++ [i]) = putE (putAll ρ ys is) y i
  | ρ, [], [], y, i, _ => rfl
  | ρ, z :: ys, j :: is, y, i, h => putAll_snoc (ρ := putE ρ z j) (ys := ys) (is := is) (Nat.succ.inj h)
theorem kn_put {kvs : List (Key × V)} {ρ : Env'} {y : Str} {i : Int} (h : ∀ z, valV kvs (Sum.inr z) = (ρ z).map V.int) : ∀ z, valV (putK kvs (Sum.inr y) (.int i)) (Sum.inr z) = (putE ρ y i z).map V.int := fun z => by
  rw [valV_put]
  unfold putE
  by_cases e : z = y
  · rw [if_pos (by rw [e]), if_pos e]; rfl
  · rw [if_neg (fun h => e (by injection h)), if_neg e]; exact h z
theorem sqB_up {t : Bool} {K : PySem.W.Frag} {H H' : Hp} {b : Addr} {ys : List V} (x : Ex H H') (h : SqB t K H b ys) : SqB t K H' b ys := by
  cases t with
  | true => exact ex_t x (show SqT K H b ys from h)
  | false => exact ex_l x (show SqL K H b ys from h)
section
variable {P : Program} {w : World} {K : PySem.W.Frag} {mg : Str → Option Value} {base : Heap} {CF fI CB CT f g g2 g3 : Addr} {fdI fd gd gd2 gd3 : FuncData}
theorem ok_gb (n k : Nat) (C : TlC K CT) (M : TmC K CT "given_back" "Telling.given_back" s_gb PaG f fd)
    (M1 : TmC K CT "go_through" "Telling.go_through" s_gt PaL g gd) (G1 : FnOk P w K mg base (L2N.CX P w) k g gd PaL (spGT K CF CB CT k n)) (zz : mg "zip" = none) :
    FnOk P w K mg base (L2N.CX P w) (k + 1) f fd PaG (spGb K CF CB CT (k + 1) n) := by
  refine okN M.F sc_gb (fun vs H Q E ⟨b, p, dxp, tup, sp, hs, MM, T, s, x, t, is, u, tp, deep, e, _⟩ => by rw [e]; rfl) (fun cdv A outer sh H vs Q E hr h => ?_)
  obtain ⟨b, p, dxp, tup, sp, hs, MM, T, s, x, t, is, u, tp, deep, rfl, h12, te, et, el, wi, hsq, q⟩ := h
  refine ⟨_, pss_cons (ps_asg (pe_dget (hu1 hr) (pe_fld (pv 0) rfl) (pv 1) (fun _ _ => rfl)) (pg_tup rfl (pgs_cons (pg_name (i := 4) sc_gb.nd rfl (Or.inl rfl)) (pgs_cons (pg_name (i := 5) sc_gb.nd rfl (Or.inl rfl)) pgs_nil))))
    (pss_cons (ps_setDc (i := 6) (own := [("name", 8), ("number", 9)]) (g := gTup K 2 (gCons (gName 8) (gCons (gName 9) gNil))) (tt := tYes) (tk := tVar 8) (tv := tVar 9) rfl sc_gb.nd rfl rfl (swD_true rfl rfl rfl (by decide +kernel)) (pi_zipM rfl zz (pa_cons (pv 4) (pa_cons (pv 2) pa_nil))) (blkOk_by (N := NGb) (sc := defScope s_gb) (by decide +kernel))
      (fun _ _ _ _ _ => pg_tup rfl (pgs_cons (pg_name (i := 8) sc_gb.nd rfl (Or.inl rfl)) (pgs_cons (pg_name (i := 9) sc_gb.nd rfl (Or.inl rfl)) pgs_nil))) (fun _ _ _ _ _ => pts_nil) (fun _ _ _ _ _ => pv 8) (fun _ _ _ _ _ => pv 9))
    (pss_cons (ps_set (i := 7) sc_gb.nd rfl (Or.inl rfl) (pe_methX (E := WE fun cls d _ H => E cls d H) (pv 0) C.c M1.at_ G1 hr M1.b (fun σ => L2N.passAt (L2N.takes_of rfl rfl rfl rfl) σ) (pa_cons (pv 5) (pa_cons (pv 6) (pa_cons (pv 3) pa_nil)))))
    (pss_one (ps_ret (pe_ifExp (pt_cmp (pc_isN (pv 7))) pe_int (pv 7)))))), ?_⟩
  have hsl : sizeLine = 16777216 := sizeLine_eq
  obtain ⟨tvs, ht1, ht2⟩ := te.tr
  obtain ⟨ta, hta, dta⟩ := ht2 x t et
  obtain ⟨ln, _, w, m, hM, hsa⟩ := te.hT.ok x t et
  have hg : DGet H tup (.str x) (some (.ref ta)) := by
    have := DGet.k (k := Sum.inr x) ht1
    rw [hta] at this
    exact this
  cases dta with
  | @tup _ ys _ g1 gn g2 =>
  cases g2 with
  | @cons vn _ _ _ m1 g2 =>
  cases g2 with
  | @cons vs _ _ _ m2 g2 =>
  cases g2
  refine ⟨.ref p, rfl, p, CT, dxp, _, .ref tup, rfl, te.tl.ins, C.c, C.nT, rfl, .str x, rfl, tup, .ref ta, rfl, hg, ta, [vn, vs], rfl, ex_t hid_le g1, rfl, vn, [vs], rfl, vs, [], rfl, rfl, ?_⟩
  cases m1 with
  | @tup an xn _ n1 nn n2 =>
  have en1 := dps_strs n2
  subst en1
  refine ⟨.ref an, rfl, .ref u, rfl, an, u, _, _, rfl, ex_t hid_le n1, tp, hsq, fun kd hkd => ?_⟩
  refine dc_it (walk_zipM (n := is.length) (by rw [List.length_map]; exact el) (by rw [List.length_map])) (Pv := fun i H' => Ex H H' ∧ ∃ kvs, H' kd = some (.dK kvs) ∧ kvs.length ≤ i ∧ ∀ y, valV kvs (Sum.inr y) = (envOf (t.1.take i) (is.take i) y).map V.int) ⟨Ex.new hkd, [], upd_same, Nat.le_refl _, fun y => by rw [List.take_zero, List.take_zero]; rfl⟩ (fun i H' _ ⟨x', _⟩ => ⟨ex_t x' (ex_t hid_le n1), sqB_up x' hsq⟩) ?_ ?_
  · rintro i v H1 H2 hi ⟨x1, kvs, hk1, lk1, vk1⟩ ⟨Tt, y1, y2, rfl, hT, rfl, z1, z2⟩
    have hi2 : i < t.1.length := by omega
    have z1 : (t.1.map V.str)[i]? = some y1 := z1
    have z2 : (is.map V.int)[i]? = some y2 := z2
    rw [List.getElem?_map, List.getElem?_eq_getElem hi2] at z1
    rw [List.getElem?_map, List.getElem?_eq_getElem hi] at z2
    cases z1
    cases z2
    refine ⟨Tt, [.str t.1[i], .int is[i]], rfl, .inl (.inl upd_same), rfl, _, _, rfl, _, _, rfl, rfl, rfl, ?_⟩
    refine et_yes (H := upd H1 Tt (.tup [.str t.1[i], .int is[i]])) _ (Ex.refl _) _ fun H3 x3 => ?_
    rw [if_pos rfl]
    have x13 := (x1.trans (Ex.new hT)).trans x3
    have lput := length_putK kvs (Sum.inr t.1[i]) (.int is[i])
    refine ⟨.str t.1[i], rfl, .int is[i], rfl, kvs, Sum.inr t.1[i], rfl, x3 _ _ (Ex.new hT _ _ hk1), by rw [hsl]; omega, fun c o z => ?_, _, upd_same, by omega, fun y => ?_⟩
    · rw [upd_ne (fun e => by rw [e, hkd] at z; cases z)]
      exact x13 _ _ z
    · rw [kn_put vk1 y, List.take_succ, List.take_succ, List.getElem?_eq_getElem hi2, List.getElem?_eq_getElem hi]
      unfold envOf
      rw [Option.toList_some, Option.toList_some, putAll_snoc (by rw [List.length_take, List.length_take, el])]
  · rintro H1 ⟨x1, kvs, hk1, lk1, vk1⟩
    refine gas ?_
    have te1 := te.new hkd x1 (by rw [hk1]; intro z; cases z)
    have e1 : t.1.take is.length = t.1 := by rw [← el]; exact List.take_length
    rw [e1, List.take_length] at vk1
    have hvs : Dq K (kd :: b) H1 vs (.tuple t.2) := dp_ex (hid_ex x1) _ _ (Dq.hide m2 hkd)
    have lnn : is.length ≤ 10 := by omega
    have few := te.ok.few
    have kdk : KnD kd (envOf t.1 is) ((10 + s.l) - s.l) H1 := ⟨kvs, hk1, by omega, vk1⟩
    refine ⟨.ref p, rfl, p, dxp, _, rfl, te1.tl.ins, rfl, vs, rfl, .ref kd, rfl, .int (deep : Nat), rfl, 10 + s.l, kd :: b, p, dxp, tup, sp, kd, hs, MM, T, s, envOf t.1 is, vs, t.2, deep, w, m, rfl, (by omega), ⟨te1, List.mem_cons_self, kdk, by omega, env_ok wi, hvs⟩, hsa, ?_⟩
    have dr : ∀ {H' : Hp}, ExS [p, sp, kd] H1 H' → ExS [p, sp] H H' := fun x' => ExS.drop (S := [p, sp]) x' x1 hkd
    rcases er : (sem T n).g deep (envOf t.1 is) s t.2 with ⟨r, ρ1, s1⟩
    rw [er] at q
    cases r with
    | n =>
      have q : ∀ H', ExS [p, sp] H H' → Tl CT p dxp tup sp s1 H' → Q (.int 0) H' := q
      intro H2 x2 t2 k2
      refine gas ⟨.non, rfl, _, rfl, ?_⟩
      show ite (true = true) _ _
      rw [if_pos rfl]
      exact q H2 (dr x2) t2
    | b i =>
      have q : ∀ H', ExS [p, sp] H H' → Tl CT p dxp tup sp s1 H' → Q (.int i) H' := q
      intro H2 x2 t2 k2
      refine gas ⟨.int i, rfl, _, rfl, ?_⟩
      show ite (false = true) _ _
      rw [if_neg Bool.false_ne_true]
      exact ⟨.int i, rfl, q H2 (dr x2) t2⟩
    | f i =>
      intro dx Hf hd x2 t2 k2 hx
      refine q dx Hf ?_ (dr x2) t2 hx
      cases z : H dx with
      | none => rfl
      | some o => rw [x1 _ _ z] at hd; cases hd
    | l => exact fun Hf x2 t2 k2 => q Hf (dr x2) t2
    | s => exact q
theorem ok_cd (n k : Nat) (T : FtC K mg CF fI fdI) (C : TlC K CT) (M : TmC K CT "called" "Telling.called" s_cd PaG f fd)
    (M1 : TmC K CT "given_back" "Telling.given_back" s_gb PaG g gd) (G1 : FnOk P w K mg base (L2N.CX P w) k g gd PaG (spGb K CF CB CT k n)) {t1 t2 : Tok} (m1 : mg "MOST_BEGUN" = some (.int 12 t1)) (m2 : mg "TOO_DEEP" = some (.int (-4) t2)) :
    FnOk P w K mg base (L2N.CX P w) (k + 1) f fd PaG (spCd K CF CB CT (k + 1) n) := by
  refine okN M.F sc_cd (fun vs H Q E ⟨b, p, dxp, tup, sp, hs, MM, T, s, x, t, is, u, deep, e, _⟩ => by rw [e]; rfl) (fun cdv A outer sh H vs Q E hr h => ?_)
  obtain ⟨b, p, dxp, tup, sp, hs, MM, TT, s, x, t, is, u, deep, rfl, h12, te, et, el, wi, hsq, q⟩ := h
  have r2 : Room 2 _ := hr.mono (by omega)
  refine ⟨_, pss_cons (ps_if (pt_cmpR op_ge (pv 3) (pe_gI m1) (nomark _)) (pss_one (ps_ftN (W := fun cls d _ H => E cls d H) T rfl (L2N.takes_of rfl rfl rfl rfl) r2 (pe_gI m2))) pss_nil)
    (pss_one (ps_ret (pe_methX (E := WE fun cls d _ H => E cls d H) (pv 0) C.c M1.at_ G1 hr M1.b (fun σ => L2N.passAt (L2N.takes_of rfl rfl rfl rfl) σ) (pa_cons (pv 1) (pa_cons (pv 2) (pa_cons (pe_op op_add (pv 3) pe_int) pa_nil)))))), ?_⟩
  refine ⟨_, rfl, _, _, rfl, rfl, _, rfl, ?_⟩
  unfold callF at q
  by_cases hd : 12 ≤ deep
  · rw [if_pos hd] at q
    have q : ∀ dx Hf, H dx = none → ExS [p, sp] H Hf → Tl CT p dxp tup sp s Hf → Hf dx = some (.xd [("number", .int (-4))]) → E (.ref CF) (some dx) Hf := q
    rw [decide_eq_true (by omega)]
    show ite (true = true) _ _
    rw [if_pos rfl]
    exact mk_ft T.T T.n (by decide) ⟨rfl, rfl⟩ (fun dx Hf hd xf hx => q dx Hf hd (exS xf) (te.tl.up xf) hx) fun Q Q' hq z => hq _ _ z
  · rw [if_neg hd, et] at q
    rw [decide_eq_false (by omega)]
    show ite (false = true) _ _
    rw [if_neg Bool.false_ne_true]
    refine gnext ⟨.ref p, rfl, p, dxp, _, rfl, te.tl.ins, rfl, .str x, rfl, .ref u, rfl, .int (deep : Nat), rfl, _, _, rfl, rfl, ?_⟩
    exact ⟨b, p, dxp, tup, sp, hs, MM, TT, s, x, t, is, u, false, deep + 1, rfl, (by omega), te, et, el, wi, hsq, q⟩
end
end Wr

set_option Elab.async false
set_option linter.all false
set_option maxRecDepth 100000
set_option maxHeartbeats 4000000
namespace Wr
open PySem PySem.Spec PyProof.Rows L2 Evl
def triF (F : Sem) (deep : Nat) (y : Str) (ts : List PyData) (r : RG × Env' × Stt) : RG × Env' × Stt := match r with
  | (.f i, ρ1, s1) => F.g deep (putE ρ1 y i) s1 ts
  | r => r
theorem s_tri' {T : Tt} {F : Sem} {deep : Nat} {ρ : Env'} {s : Stt} {y : Str} {ss ts : List PyData} : sStep T F deep ρ s (.tuple [.str "try", .tuple ss, .str y, .tuple ts]) = triF F deep y ts (F.g deep ρ s ss) := by
  rw [s_tri]
  show (match F.g deep ρ s ss with
      | (.f i, ρ1, s1) => F.g deep (putE ρ1 y i) s1 ts
      | r => r) = _
  rcases F.g deep ρ s ss with ⟨r, ρ1, s1⟩
  cases r <;> rfl
section
variable {P : Program} {w : World} {K : PySem.W.Frag} {mg : Str → Option Value} {base : Heap} {CF fI CB CT f g g2 g3 : Addr} {fdI fd gd gd2 gd3 : FuncData}
theorem ok_ty (n k : Nat) (T : FtC K mg CF fI fdI) (te : PySem.W.exmOne K (.ref CF) (.ref CF) = some true) (tb : PySem.W.exmOne K (.ref CB) (.ref CF) = some false) (XT : XfC K CF) (C : TlC K CT) (M : TmC K CT "go_through_try" "Telling.go_through_try" s_ty PaS f fd)
    (M1 : TmC K CT "go_through" "Telling.go_through" s_gt PaL g gd) (G1 : FnOk P w K mg base (L2N.CX P w) k g gd PaL (spGT K CF CB CT k n)) :
    FnOk P w K mg base (L2N.CX P w) (k + 1) f fd PaS (spTy K CF CB CT (k + 1) n) := by
  refine okN M.F sc_ty (fun vs H Q E ⟨c, b, p, dxp, tup, sp, kd, hs, MM, TT, s, ρ, u, y, ss, ts, deep, w, m, e, _⟩ => by rw [e]; rfl) (fun cdv A outer sh H vs Q E hr h => ?_)
  obtain ⟨c, b, p, dxp, tup, sp, kd, hs, MM, TT, s, ρ, u, y, ss, ts, deep, w, m, rfl, h12, I, hss, hts, hc, q⟩ := h
  have huu := hu1 hr
  refine ⟨_, pss_cons (L2N.ps_try_as (i := 4) rfl rfl sc_ty.nd rfl rfl ⟨rfl, by decide, .inl T.m⟩ (L2N.takes_of (E := E) rfl rfl rfl rfl)
      (fun W pn xe tkk _ => pss_one (ps_ret (pe_methX (E := WE W) (pv 0) C.c M1.at_ G1 hr M1.b (fun σ => L2N.passAt tkk σ) (pa_cons (pe_ix (r := rIxT K) ix_tup (pv 1) pe_int (fun _ _ => rfl)) (pa_cons (pv 2) (pa_cons (pv 3) pa_nil))))))
      (fun a oe cls d pn hz hf => pss_one (ps_dput huu (pv 2) (pe_ix (r := rIxT K) ix_tup (pv 1) pe_int (fun _ _ => rfl)) (pe_xf XT T.n hz.zc hf (pv 4)) rfl)))
    (pss_one (ps_ret (pe_methX (E := WE fun cls d _ H => E cls d H) (pv 0) C.c M1.at_ G1 hr M1.b (fun σ => L2N.passAt (L2N.takes_of rfl rfl rfl rfl) σ) (pa_cons (pe_ix (r := rIxT K) ix_tup (pv 1) pe_int (fun _ _ => rfl)) (pa_cons (pv 2) (pa_cons (pv 3) pa_nil)))))), ?_⟩
  have hsl : sizeLine = 16777216 := sizeLine_eq
  have S := sem_ok I.te.hT n
  rw [s_tri'] at q
  have tl := I.te.tl
  refine ⟨.ref p, rfl, p, dxp, _, rfl, tl.ins, rfl, ?_⟩
  refine (ed_ixT (K := K) (b := b) (σ := start NTy [.ref p, u, .ref kd, .int (deep : Nat)]) (ed_var (i := 1) rfl I.hu) (ed_int (i := 1)) (atI1 (PyData.str "try") (.tuple ss) [.str y, .tuple ts])) H (Ex.refl H) _ fun ua H1 x1 hua => ?_
  have te1 := I.te.up x1
  have gok := S.g deep ρ s ss w m I.ρ hss
  refine ⟨.ref kd, rfl, .int (deep : Nat), rfl, c - 1, b, p, dxp, tup, sp, kd, hs, MM, TT, s, ρ, ua, ss, deep, w, m, rfl, (by omega), ⟨te1, I.kb, I.kd.up x1, by omega, I.ρ, hua⟩, hss, ?_⟩
  rcases er : (sem TT n).g deep ρ s ss with ⟨r, ρ1, s1⟩
  rw [er] at q gok
  have n3 := nn3 te1.tl (I.kd.up x1)
  cases r with
  | n =>
    have q : ∀ H', ExS [p, sp, kd] H H' → Tl CT p dxp tup sp s1 H' → KnD kd ρ1 (c - s1.l) H' → Q .non H' := q
    exact fun H' x' t k => q H' ((exS x1).trans x') t (k.le (by show c - 1 - s1.l ≤ c - s1.l; omega))
  | b i =>
    have q : ∀ H', ExS [p, sp, kd] H H' → Tl CT p dxp tup sp s1 H' → KnD kd ρ1 (c - s1.l) H' → Q (.int i) H' := q
    exact fun H' x' t k => q H' ((exS x1).trans x') t (k.le (by show c - 1 - s1.l ≤ c - s1.l; omega))
  | l =>
    have q : ∀ Hf, ExS [p, sp, kd] H Hf → Tl CT p dxp tup sp s1 Hf → KnD kd ρ1 (c - s1.l) Hf → E (.ref CB) none Hf := q
    exact fun H' x' t k => ⟨false, tb, (fun z => nomatch z), fun _ => q H' ((exS x1).trans x') t (k.le (by show c - 1 - s1.l ≤ c - s1.l; omega))⟩
  | s => exact q.elim
  | f fn =>
  intro dx Hf hdx x' tf' kf hx
  have q : GEnd CF CB CT p dxp tup sp kd c H ((sem TT n).g deep (putE ρ1 y fn) s1 ts) Q E := q
  have kf : KnD kd ρ1 (c - 1 - s1.l) Hf := kf
  have wf := gok.2.2 fn (.inr rfl)
  have gle : SttLe s s1 := gok.1
  have rok : ρ1.ok := gok.2.1
  refine ⟨true, te, fun _ ea hea => ?_, fun z => nomatch z⟩
  have xf := (exS x1).trans x'
  have tef := te1.next3 I.kb x' tf' kf (I.te.ok.le gle)
  have huf := exS_dq (I.te.s3 I.kb) xf I.hu
  refine ⟨.ref ea, rfl, rfl, rfl, dx, _, .int fn, rfl, hx, rfl, .ref kd, rfl, ?_⟩
  refine (ed_ixT (K := K) (b := b) (σ := [some (.ref p), some u, some (.ref kd), some (.int (deep : Nat)), some (.ref ea)]) (ed_var (i := 1) rfl huf) (ed_int (i := 2)) (atI2 (PyData.str "try") (.tuple ss) (.str y) [.tuple ts])) Hf (Ex.refl Hf) _ fun vy H3 x3 hvy => ?_
  have evy := dq_str hvy
  subst evy
  have te3 := tef.up x3
  obtain ⟨kvs, hk, hkl, hkv⟩ := kf.up x3
  have nk := (kf.up x3).not te3.tl
  have s1n : 0 ≤ s1.l := te3.ok.nn
  refine ⟨kd, _, rfl, .inl ⟨kvs, Sum.inr y, hk, rfl, by rw [hsl]; omega, rfl⟩, ?_⟩
  have kp : kd ≠ p := fun e => nk (by rw [e]; exact List.mem_cons_self)
  have ks : kd ≠ sp := fun e => nk (by rw [e]; exact List.mem_cons_of_mem _ List.mem_cons_self)
  have t4 : Tl CT p dxp tup sp s1 (upd H3 kd (.dK (putK kvs (Sum.inr y) (.int fn)))) := ⟨by rw [upd_ne (Ne.symm kp)]; exact te3.tl.ins, by rw [upd_ne (Ne.symm ks)]; exact te3.tl.spk⟩
  have k4 : KnD kd (putE ρ1 y fn) (c - s1.l) (upd H3 kd (.dK (putK kvs (Sum.inr y) (.int fn)))) := ⟨_, upd_same, by
    have := length_putK kvs (Sum.inr y) (.int fn)
    omega, kn_put hkv⟩
  have x4 : ExS [p, sp, kd] Hf (upd H3 kd (.dK (putK kvs (Sum.inr y) (.int fn)))) := fun c o m z => by
    rw [upd_ne (fun e => m (by rw [e]; exact List.mem_cons_of_mem _ (List.mem_cons_of_mem _ List.mem_cons_self)))]
    exact x3 _ _ z
  generalize upd H3 kd (.dK (putK kvs (Sum.inr y) (.int fn))) = H4 at t4 k4 x4
  have te4 := tef.next3 I.kb x4 t4 k4 te3.ok
  have x04 := xf.trans x4
  refine ⟨.ref p, rfl, p, dxp, _, rfl, t4.ins, rfl, ?_⟩
  refine (ed_ixT (K := K) (b := b) (σ := [some (.ref p), some u, some (.ref kd), some (.int (deep : Nat)), none]) (ed_var (i := 1) rfl (exS_dq (I.te.s3 I.kb) x04 I.hu)) (ed_int (i := 3)) (atI_nat (j := 3) rfl)) H4 (Ex.refl H4) _ fun ub H5 x5 hub => ?_
  have hub : Dq K b H5 ub (.tuple ts) := hub
  have te5 := te4.up x5
  refine ⟨.ref kd, rfl, .int (deep : Nat), rfl, c, b, p, dxp, tup, sp, kd, hs, MM, TT, s1, putE ρ1 y fn, ub, ts, deep, w, m, rfl, (by omega), ⟨te5, I.kb, k4.up x5, hc, putE_ok rok wf, hub⟩, hts, ?_⟩
  exact q.same (x04.trans (exS x5)) (nn3 te5.tl (k4.up x5))
end
end Wr

set_option Elab.async false
set_option linter.all false
set_option maxRecDepth 100000
set_option maxHeartbeats 4000000
namespace Wr
open PySem PySem.Spec PyProof.Rows L2 Evl
/-- one time of a while -/
def onceF (G : Env' → Stt → RG × Env' × Stt) (next : Env' → Stt → RG × Env' × Stt) (ρ : Env') (r : RV × Stt) : RG × Env' × Stt := match r with
  | (.w i, s1) => if i = 0 then (.n, ρ, s1) else match G ρ s1 with
    | (.n, ρ2, s2) => if s2.l ≤ 0 then (.l, ρ2, s2) else next ρ2 ⟨s2.l - 1, s2.said⟩
    | r => r
  | (r, s1) => (retV r, ρ, s1)
theorem while_once {V : Env' → Stt → RV × Stt} {G : Env' → Stt → RG × Env' × Stt} {m : Nat} {ρ : Env'} {s : Stt} : whileF V G (m + 1) ρ s = onceF G (whileF V G m) ρ (V ρ s) := by
  rw [whileF]
  rcases V ρ s with ⟨r, s1⟩
  cases r with
  | w i =>
    show (if i = 0 then _ else _) = (if i = 0 then _ else _)
    split
    · rfl
    · rcases G ρ s1 with ⟨r2, ρ2, s2⟩
      cases r2 <;> rfl
  | f i => rfl
  | l => rfl
  | s => rfl
section
variable {P : Program} {w : World} {K : PySem.W.Frag} {mg : Str → Option Value} {base : Heap} {CF fI CB CT f g g2 g3 : Addr} {fdI fd gd gd2 gd3 : FuncData}
theorem ok_wh (n k : Nat) (C : TlC K CT) (M : TmC K CT "go_through_while" "Telling.go_through_while" s_wh PaS f fd)
    (M1 : TmC K CT "go_through" "Telling.go_through" s_gt PaL g gd) (G1 : FnOk P w K mg base (L2N.CX P w) k g gd PaL (spGT K CF CB CT k n))
    (M2 : TmC K CT "worth_of" "Telling.worth_of" s_wo PaW g2 gd2) (G2 : FnOk P w K mg base (L2N.CX P w) k g2 gd2 PaW (spW K CF CB CT k n))
    (M3 : TmC K CT "count_one" "Telling.count_one" s_co ["self"] g3 gd3) (G3 : FnOk P w K mg base (L2N.CX P w) 1 g3 gd3 ["self"] (spCo CB CT)) :
    FnOk P w K mg base (L2N.CX P w) (k + 1) f fd PaS (spWh K CF CB CT (k + 1) n) := by
  refine okN M.F sc_wh (fun vs H Q E ⟨c, b, p, dxp, tup, sp, kd, hs, MM, TT, s, ρ, u, v, ss, deep, w, m, e, _⟩ => by rw [e]; rfl) (fun cdv A outer sh H vs Q E hr h => ?_)
  obtain ⟨c, b, p, dxp, tup, sp, kd, hs, MM, TT, s, ρ, u, v, ss, deep, w, m, rfl, h12, I, hv, hss, q⟩ := h
  have r1 : Room 1 _ := hr.mono (by omega)
  refine ⟨_, pss_cons (ps_while (passes_of rfl) (pt_cmpR op_ne (pe_methX (E := WE fun cls d _ H => E cls d H) (pv 0) C.c M2.at_ G2 hr M2.b (fun σ => L2N.passAt (L2N.takes_of rfl rfl rfl rfl) σ) (pa_cons (pe_ix (r := rIxT K) ix_tup (pv 1) pe_int (fun _ _ => rfl)) (pa_cons (pv 2) (pa_cons (pv 3) pa_nil)))) pe_int (nomark _))
      (pss_cons (ps_set (i := 4) sc_wh.nd rfl (Or.inl rfl) (pe_methX (E := WE fun cls d _ H => E cls d H) (pv 0) C.c M1.at_ G1 hr M1.b (fun σ => L2N.passAt (L2N.takes_of rfl rfl rfl rfl) σ) (pa_cons (pe_ix (r := rIxT K) ix_tup (pv 1) pe_int (fun _ _ => rfl)) (pa_cons (pv 2) (pa_cons (pv 3) pa_nil)))))
      (pss_cons (ps_if (pt_cmp (pc_notN (pv 4))) (pss_one (ps_ret (pv 4))) pss_nil)
      (pss_one (ps_expr (pe_meth0 (E := E) (pv 0) C.c M3.at_ G3 r1 M3.b .nil (fun pins σ H s e s' I c => L2N.passAt (W := fun cls d _ H => E cls d H) (L2N.takes_of rfl rfl rfl rfl) σ pins H s e s' I c)))))))
    (pss_one (ps_ret pe_non)), ?_⟩
  have hsl : sizeLine = 16777216 := sizeLine_eq
  have S := sem_ok I.te.hT n
  rw [s_whl] at q
  have q : GEnd CF CB CT p dxp tup sp kd c H (whileF (fun ρ s => (sem TT n).v deep ρ s v) (fun ρ s => (sem TT n).g deep ρ s ss) (s.l.toNat + 1) ρ s) Q E := q
  refine ⟨fun m σ' H' => (∃ y4, σ' = [some (.ref p), some u, some (.ref kd), some (.int (deep : Nat)), y4]) ∧ ∃ ρ1 s1, ExS [p, sp, kd] H H' ∧ Tl CT p dxp tup sp s1 H' ∧ KnD kd ρ1 (c - s1.l) H' ∧ ρ1.ok ∧ SttLe s s1 ∧ GEnd CF CB CT p dxp tup sp kd c H (whileF (fun ρ s => (sem TT n).v deep ρ s v) (fun ρ s => (sem TT n).g deep ρ s ss) m ρ1 s1) Q E,
    ⟨_, ⟨none, rfl⟩, ρ, s, ExS.refl, I.te.tl, I.kd, I.ρ, SttLe.refl s, q⟩, ?_⟩
  rintro m0 σ' H1 ⟨⟨y4, rfl⟩, ρ1, s1, x1, t1, k1, rok, le1, q1⟩
  cases m0 with
  | zero => exact q1.elim
  | succ m1 =>
  rw [while_once] at q1
  have te1 := I.te.next3 I.kb x1 t1 k1 (I.te.ok.le le1)
  refine ⟨.ref p, rfl, p, dxp, _, rfl, t1.ins, rfl, ?_⟩
  refine (ed_ixT (K := K) (b := b) (σ := [some (.ref p), some u, some (.ref kd), some (.int (deep : Nat)), y4]) (ed_var (i := 1) rfl (exS_dq (I.te.s3 I.kb) x1 I.hu)) (ed_int (i := 1)) (atI1 (PyData.str "while") v [.tuple ss])) H1 (Ex.refl H1) _ fun uv H2 x2 hv2 => ?_
  have te2 := te1.up x2
  have x02 := x1.trans (exS x2)
  have vok := S.v deep ρ1 s1 v w rok hv
  refine ⟨.ref kd, rfl, .int (deep : Nat), rfl, b, p, dxp, tup, sp, kd, hs, MM, TT, s1, ρ1, uv, v, deep, w, rfl, (by omega), ⟨te2, I.kb, ⟨_, k1.up x2⟩, rok, hv2, hv⟩, ?_⟩
  have q1 : GEnd CF CB CT p dxp tup sp kd c H (onceF (fun ρ s => (sem TT n).g deep ρ s ss) (whileF (fun ρ s => (sem TT n).v deep ρ s v) (fun ρ s => (sem TT n).g deep ρ s ss) m1) ρ1 ((sem TT n).v deep ρ1 s1 v)) Q E := q1
  rcases er : (sem TT n).v deep ρ1 s1 v with ⟨r, s2⟩
  rw [er] at q1 vok
  have le2 : SttLe s1 s2 := vok.1
  have kk2 : KnD kd ρ1 (c - s2.l) H2 := (k1.up x2).le (by have := le2.le; omega)
  cases r with
  | f j => exact GEnd.ret (r := .f j) q1 x02 te2.tl kk2 fun _ h => nomatch h
  | l => exact GEnd.ret (r := .l) q1 x02 te2.tl kk2 fun _ h => nomatch h
  | s => exact q1.elim
  | w i =>
  intro H3 x3 t3
  have te3 := te2.next2 x3 t3 (te1.ok.le le2)
  have x03 : ExS [p, sp, kd] H H3 := x02.trans (x3.mono mem23)
  have k3 := kk2.at te2.tl x3
  refine ⟨rfl, _, rfl, ?_⟩
  rw [dec_int]
  have q1 : GEnd CF CB CT p dxp tup sp kd c H (if i = 0 then (.n, ρ1, s2) else match (sem TT n).g deep ρ1 s2 ss with
    | (.n, ρ2, s2) => if s2.l ≤ 0 then (.l, ρ2, s2) else whileF (fun ρ s => (sem TT n).v deep ρ s v) (fun ρ s => (sem TT n).g deep ρ s ss) m1 ρ2 ⟨s2.l - 1, s2.said⟩
    | r => r) Q E := q1
  by_cases hi : i = 0
  · rw [if_pos hi] at q1
    subst hi
    show ite (false = true) _ _
    rw [if_neg Bool.false_ne_true]
    exact q1 H3 x03 t3 k3
  rw [if_neg hi] at q1
  rw [beq_eq_false_iff_ne.mpr hi]
  show ite (true = true) _ _
  rw [if_pos rfl]
  refine ⟨fun σ' H' => (∃ y4, σ' = [some (.ref p), some u, some (.ref kd), some (.int (deep : Nat)), y4]) ∧ ∃ ρ1 s1, ExS [p, sp, kd] H H' ∧ Tl CT p dxp tup sp s1 H' ∧ KnD kd ρ1 (c - s1.l) H' ∧ ρ1.ok ∧ SttLe s s1 ∧ GEnd CF CB CT p dxp tup sp kd c H (whileF (fun ρ s => (sem TT n).v deep ρ s v) (fun ρ s => (sem TT n).g deep ρ s ss) m1 ρ1 s1) Q E,
    fun σ' H' h => ⟨m1, Nat.lt_succ_self _, h⟩, ?_⟩
  refine ⟨.ref p, rfl, p, dxp, _, rfl, t3.ins, rfl, ?_⟩
  refine (ed_ixT (K := K) (b := b) (σ := [some (.ref p), some u, some (.ref kd), some (.int (deep : Nat)), y4]) (ed_var (i := 1) rfl (exS_dq (I.te.s3 I.kb) x03 I.hu)) (ed_int (i := 2)) (atI2 (PyData.str "while") v (.tuple ss) [])) H3 (Ex.refl H3) _ fun us H4 x4 hus => ?_
  have te4 := te3.up x4
  have x04 := x03.trans (exS x4)
  have gok := S.g deep ρ1 s2 ss w m rok hss
  refine ⟨.ref kd, rfl, .int (deep : Nat), rfl, c, b, p, dxp, tup, sp, kd, hs, MM, TT, s2, ρ1, us, ss, deep, w, m, rfl, (by omega), ⟨te4, I.kb, k3.up x4, I.c, rok, hus⟩, hss, ?_⟩
  rcases er2 : (sem TT n).g deep ρ1 s2 ss with ⟨r2, ρ2, s3⟩
  rw [er2] at q1 gok
  have le3 : SttLe s2 s3 := gok.1
  have rok2 : ρ2.ok := gok.2.1
  have n4 := nn3 te4.tl (k3.up x4)
  cases r2 with
  | b j =>
    have q1 : ∀ H', ExS [p, sp, kd] H H' → Tl CT p dxp tup sp s3 H' → KnD kd ρ2 (c - s3.l) H' → Q (.int j) H' := q1
    intro H5 x5 t5 k5
    refine gas ?_
    refine ⟨.int j, rfl, _, rfl, ?_⟩
    show ite (true = true) _ _
    rw [if_pos rfl]
    exact ⟨.int j, rfl, q1 H5 (x04.trans x5) t5 k5⟩
  | f j => exact GEnd.same (r := (.f j, ρ2, s3)) q1 x04 n4
  | l => exact GEnd.same (r := (.l, ρ2, s3)) q1 x04 n4
  | s => exact q1.elim
  | n =>
  have q1 : GEnd CF CB CT p dxp tup sp kd c H (if s3.l ≤ 0 then (.l, ρ2, s3) else whileF (fun ρ s => (sem TT n).v deep ρ s v) (fun ρ s => (sem TT n).g deep ρ s ss) m1 ρ2 ⟨s3.l - 1, s3.said⟩) Q E := q1
  intro H5 x5 t5 k5
  have x05 := x04.trans x5
  have t5 : Tl CT p dxp tup sp s3 H5 := t5
  have k5 : KnD kd ρ2 (c - s3.l) H5 := k5
  refine gas ?_
  refine ⟨.non, rfl, _, rfl, ?_⟩
  show ite (false = true) _ _
  rw [if_neg Bool.false_ne_true]
  refine ⟨.ref p, rfl, p, dxp, _, rfl, t5.ins, rfl, p, dxp, tup, sp, s3, rfl, t5, fun hl => ?_, fun hl => ?_⟩
  · rw [if_neg hl] at q1
    have nk := k5.not t5
    have kp : kd ≠ p := fun e => nk (by rw [e]; exact List.mem_cons_self)
    refine ⟨⟨_, rfl⟩, ρ2, ⟨s3.l - 1, s3.said⟩, fun c o mm z => ?_, ⟨upd_same, by rw [upd_ne (Ne.symm t5.ne)]; exact t5.spk⟩, ?_, rok2, ((le1.trans le2).trans le3).trans (SttLe.count hl), q1⟩
    · rw [upd_ne (fun e => mm (by rw [e]; exact List.mem_cons_self))]
      exact x05 _ _ mm z
    · obtain ⟨kvs, h1, h2, h3⟩ := k5
      exact ⟨kvs, by rw [upd_ne kp]; exact h1, by show (kvs.length : Int) ≤ c - (s3.l - 1); omega, h3⟩
  · rw [if_pos hl] at q1
    exact q1 H5 x05 t5 k5
end
end Wr

set_option Elab.async false
set_option linter.all false
set_option maxRecDepth 100000
set_option maxHeartbeats 4000000
namespace Wr
open PySem PySem.Spec PyProof.Rows L2 Evl
theorem oneW_ok {o : Str} (h : o ∈ oneW') : PyData.strOk o = true ∧ o ≠ "try" ∧ o ≠ "while" ∧ o ≠ "set" ∧ o ≠ "if" := by
  have q : (oneW'.all fun o => PyData.strOk o && (decide (o ≠ "try") && (decide (o ≠ "while") && (decide (o ≠ "set") && decide (o ≠ "if"))))) = true := by decide +kernel
  have := List.all_eq_true.mp q o h
  simp only [Bool.and_eq_true, decide_eq_true_eq] at this
  exact this
/-- the word of a saying -/
theorem sap_word {hs : Hds} {w m : Nat} {d : PyData} (h : SaP hs w m d) : ∃ wd rest, d = .tuple (.str wd :: rest) ∧ PyData.strOk wd = true := by
  cases h with
  | set _ _ => exact ⟨_, _, rfl, by decide +kernel⟩
  | one ho _ => exact ⟨_, _, rfl, (oneW_ok ho).1⟩
  | ite _ _ _ => exact ⟨_, _, rfl, by decide +kernel⟩
  | whl _ _ => exact ⟨_, _, rfl, by decide +kernel⟩
  | tri _ _ _ => exact ⟨_, _, rfl, by decide +kernel⟩
section
variable {P : Program} {w : World} {K : PySem.W.Frag} {mg : Str → Option Value} {base : Heap} {CF fI CB CT f g1 g2 g3 g4 g5 : Addr} {fdI fd gd1 gd2 gd3 gd4 gd5 : FuncData}
theorem ok_g1 (n k : Nat) (T : FtC K mg CF fI fdI) (C : TlC K CT) (M : TmC K CT "go_through_one" "Telling.go_through_one" s_g1 PaS f fd)
    (M1 : TmC K CT "go_through" "Telling.go_through" s_gt PaL g1 gd1) (G1 : FnOk P w K mg base (L2N.CX P w) k g1 gd1 PaL (spGT K CF CB CT k n))
    (M2 : TmC K CT "go_through_try" "Telling.go_through_try" s_ty PaS g2 gd2) (G2 : FnOk P w K mg base (L2N.CX P w) k g2 gd2 PaS (spTy K CF CB CT k n))
    (M3 : TmC K CT "worth_of" "Telling.worth_of" s_wo PaW g3 gd3) (G3 : FnOk P w K mg base (L2N.CX P w) k g3 gd3 PaW (spW K CF CB CT k n))
    (M4 : TmC K CT "count_one" "Telling.count_one" s_co ["self"] g4 gd4) (G4 : FnOk P w K mg base (L2N.CX P w) 1 g4 gd4 ["self"] (spCo CB CT))
    (M5 : TmC K CT "go_through_while" "Telling.go_through_while" s_wh PaS g5 gd5) (G5 : FnOk P w K mg base (L2N.CX P w) k g5 gd5 PaS (spWh K CF CB CT k n)) :
    FnOk P w K mg base (L2N.CX P w) (k + 1) f fd PaS (spG1 K CF CB CT (k + 1) n) := by
  refine okN M.F sc_g1 (fun vs H Q E ⟨c, b, p, dxp, tup, sp, kd, hs, MM, TT, s, ρ, u, d, deep, w, m, e, _⟩ => by rw [e]; rfl) (fun cdv A outer sh H vs Q E hr h => ?_)
  obtain ⟨c, b, p, dxp, tup, sp, kd, hs, MM, TT, s, ρ, u, d, deep, w, m, rfl, h12, I, hd, q⟩ := h
  have r1 : Room 1 _ := hr.mono (by omega)
  have r2 : Room 2 _ := hr.mono (by omega)
  have huu := hu1 hr
  refine ⟨_, pss_cons (ps_expr (pe_meth0 (E := E) (pv 0) C.c M4.at_ G4 r1 M4.b .nil (fun pins σ H s e s' I c => L2N.passAt (W := fun cls d _ H => E cls d H) (L2N.takes_of rfl rfl rfl rfl) σ pins H s e s' I c)))
    (pss_cons (ps_set (i := 4) sc_g1.nd rfl (Or.inl rfl) (pe_ix (r := rIxT K) ix_tup (pv 1) pe_int (fun _ _ => rfl)))
    (pss_cons (ps_if (pt_cmpR (op_eqD (hu64 hr)) (pv 4) pe_str (nomark _)) (pss_one (ps_ret (pe_methX (E := WE fun cls d _ H => E cls d H) (pv 0) C.c M2.at_ G2 hr M2.b (fun σ => L2N.passAt (L2N.takes_of rfl rfl rfl rfl) σ) (pa_cons (pv 1) (pa_cons (pv 2) (pa_cons (pv 3) pa_nil)))))) pss_nil)
    (pss_cons (ps_if (pt_cmpR (op_eqD (hu64 hr)) (pv 4) pe_str (nomark _)) (pss_one (ps_ret (pe_methX (E := WE fun cls d _ H => E cls d H) (pv 0) C.c M5.at_ G5 hr M5.b (fun σ => L2N.passAt (L2N.takes_of rfl rfl rfl rfl) σ) (pa_cons (pv 1) (pa_cons (pv 2) (pa_cons (pv 3) pa_nil)))))) pss_nil)
    (pss_cons (ps_if (pt_cmpR (op_eqD (hu64 hr)) (pv 4) pe_str (nomark _)) (pss_cons (ps_dput huu (pv 2) (pe_ix (r := rIxT K) ix_tup (pv 1) pe_int (fun _ _ => rfl)) (pe_methX (E := WE fun cls d _ H => E cls d H) (pv 0) C.c M3.at_ G3 hr M3.b (fun σ => L2N.passAt (L2N.takes_of rfl rfl rfl rfl) σ) (pa_cons (pe_ix (r := rIxT K) ix_tup (pv 1) pe_int (fun _ _ => rfl)) (pa_cons (pv 2) (pa_cons (pv 3) pa_nil)))) rfl) (pss_one (ps_ret pe_non))) pss_nil)
    (pss_cons (ps_set (i := 5) sc_g1.nd rfl (Or.inl rfl) (pe_methX (E := WE fun cls d _ H => E cls d H) (pv 0) C.c M3.at_ G3 hr M3.b (fun σ => L2N.passAt (L2N.takes_of rfl rfl rfl rfl) σ) (pa_cons (pe_ix (r := rIxT K) ix_tup (pv 1) pe_int (fun _ _ => rfl)) (pa_cons (pv 2) (pa_cons (pv 3) pa_nil)))))
    (pss_cons (ps_if (pt_cmpR (op_eqD (hu64 hr)) (pv 4) pe_str (nomark _)) (pss_one (ps_ret (pe_methX (E := WE fun cls d _ H => E cls d H) (pv 0) C.c M1.at_ G1 hr M1.b (fun σ => L2N.passAt (L2N.takes_of rfl rfl rfl rfl) σ) (pa_cons (pe_ifExp (pt_cmpR (op_neD (hu64 hr)) (pv 5) pe_int (nomark _)) (pe_ix (r := rIxT K) ix_tup (pv 1) pe_int (fun _ _ => rfl)) (pe_ix (r := rIxT K) ix_tup (pv 1) pe_int (fun _ _ => rfl))) (pa_cons (pv 2) (pa_cons (pv 3) pa_nil)))))) pss_nil)
    (pss_cons (ps_if (pt_cmpR (op_eqD (hu64 hr)) (pv 4) pe_str (nomark _)) (pss_one (ps_ftN (W := fun cls d _ H => E cls d H) T rfl (L2N.takes_of rfl rfl rfl rfl) r2 (pv 5))) pss_nil)
    (pss_cons (ps_if (pt_cmpR (op_eqD (hu64 hr)) (pv 4) pe_str (nomark _)) (pss_one (ps_ret (pv 5))) pss_nil)
    (pss_cons (ps_expr (pe_bm PySem.F.plainAttrs_list PySem.F.slot_list_append PySem.F.type_list_append mt_append (pe_fld (pv 0) rfl) (pa_cons (pv 5) pa_nil)))
    (pss_one (ps_ret pe_non))))))))))), ?_⟩
  have hsl : sizeLine = 16777216 := sizeLine_eq
  have S := sem_ok I.te.hT n
  have te := I.te
  have ne := te.tl.ne
  have nk := I.kd.not te.tl
  have kp : kd ≠ p := fun e => nk (by rw [e]; exact List.mem_cons_self)
  have ks : kd ≠ sp := fun e => nk (by rw [e]; exact List.mem_cons_of_mem _ List.mem_cons_self)
  refine ⟨.ref p, rfl, p, dxp, _, rfl, te.tl.ins, rfl, p, dxp, tup, sp, s, rfl, te.tl, fun hl => ?_, fun hl => ?_⟩
  rotate_left
  · rw [if_pos hl] at q
    exact q H ExS.refl te.tl I.kd
  rw [if_neg hl] at q
  obtain ⟨kvs0, hk0, lk0, vk0⟩ := I.kd
  have t0 : Tl CT p dxp tup sp ⟨s.l - 1, s.said⟩ (upd H p (.ins CT dxp (tf tup sp (s.l - 1)))) := ⟨upd_same, by rw [upd_ne (Ne.symm ne)]; exact te.tl.spk⟩
  have k0 : KnD kd ρ (c - 1 - (s.l - 1)) (upd H p (.ins CT dxp (tf tup sp (s.l - 1)))) := ⟨kvs0, by rw [upd_ne kp]; exact hk0, by omega, vk0⟩
  have x0 : ExS [p, sp, kd] H (upd H p (.ins CT dxp (tf tup sp (s.l - 1)))) := fun c o mm z => by
    rw [upd_ne (fun e => mm (by rw [e]; exact List.mem_cons_self))]
    exact z
  generalize upd H p (.ins CT dxp (tf tup sp (s.l - 1))) = H0 at t0 k0 x0
  have ok0 : StOk ⟨s.l - 1, s.said⟩ := te.ok.le (SttLe.count hl)
  have few0 := te.ok.few
  have nn0 := te.ok.nn
  have hI := I.hu
  have hcc := I.c
  have te0 := te.next3 I.kb x0 t0 k0 ok0
  have s3 := te.s3 I.kb
  have kb := I.kb
  have rok := I.ρ
  clear I
  generalize hs0 : (⟨s.l - 1, s.said⟩ : Stt) = s0 at q t0 ok0 te0
  have l0 : s0.l = s.l - 1 := by rw [← hs0]
  have d0 : s0.said = s.said := by rw [← hs0]
  rw [← l0] at k0
  have hu0 := exS_dq s3 x0 hI
  obtain ⟨wd, rest, hxd, hwd⟩ := sap_word hd
  have hu0' := hu0
  rw [hxd] at hu0'
  refine g_set (ed_ixT (K := K) (b := b) (ed_var (σ := start NG1 [.ref p, u, .ref kd, .int (deep : Nat)]) (i := 1) rfl hu0') (ed_int (i := 0)) (atI0 _ _)) fun v4 H1 x1 h4 => ?_
  have e4 := dq_str h4
  subst e4
  have tw : ∀ (y : Str) (y5 : Option V) (H' : Hp), PyData.strOk y = true → EvT (tTest (tOp (rEqD K) (tVar 4) (tC (.str y)))) [some (.ref p), some u, some (.ref kd), some (.int (deep : Nat)), some (.str wd), y5] H' (decide (wd = y)) := fun y y5 H' hy => by
    have := et_t (ed_eq (K := K) (b := b) (ed_var (σ := [some (.ref p), some u, some (.ref kd), some (.int (deep : Nat)), some (.str wd), y5]) (H := H') (i := 4) (d := .str wd) rfl (.str _)) (ed_str (x := y)) (sh_str hwd) (sh_str hy))
    rw [strEq] at this
    exact this
  have twN : ∀ (y : Str) (y5 : Option V) (H' : Hp), PyData.strOk y = true → wd ≠ y → EvT (tTest (tOp (rEqD K) (tVar 4) (tC (.str y)))) [some (.ref p), some u, some (.ref kd), some (.int (deep : Nat)), some (.str wd), y5] H' false := fun y y5 H' hy hne => by
    have := tw y y5 H' hy
    rw [decide_eq_false hne] at this
    exact this
  have twY : ∀ (y : Str) (y5 : Option V) (H' : Hp), PyData.strOk y = true → wd = y → EvT (tTest (tOp (rEqD K) (tVar 4) (tC (.str y)))) [some (.ref p), some u, some (.ref kd), some (.int (deep : Nat)), some (.str wd), y5] H' true := fun y y5 H' hy he => by
    have := tw y y5 H' hy
    rw [decide_eq_true he] at this
    exact this
  show tSeq (tIfS _ _ _) _ _ [some (.ref p), some u, some (.ref kd), some (.int (deep : Nat)), some (.str wd), none] H1
  have xa := x0.trans (exS x1)
  have te1 := te0.up x1
  have k1 := k0.up x1
  have s_try : PyData.strOk "try" = true := by decide +kernel
  have s_while : PyData.strOk "while" = true := by decide +kernel
  have s_set' : PyData.strOk "set" = true := by decide +kernel
  have s_if : PyData.strOk "if" = true := by decide +kernel
  have s_throw : PyData.strOk "throw" = true := by decide +kernel
  have s_back : PyData.strOk "back" = true := by decide +kernel
  have ew : ∀ {y : Str} {r : List PyData}, d = .tuple (.str y :: r) → wd = y := fun {y r} e => by
    rw [hxd] at e
    injection e with e
    injection e with e _
    injection e with e
  cases hd with
  | @tri n' y ss ts hy h1 h2 =>
    refine g_yes (twY "try" none H1 s_try (ew rfl)) fun H2 x2 => ?_
    have te2 := te1.up x2
    have xb := xa.trans (exS x2)
    refine ⟨.ref p, rfl, p, dxp, _, rfl, te2.tl.ins, rfl, u, rfl, .ref kd, rfl, .int (deep : Nat), rfl, c, b, p, dxp, tup, sp, kd, hs, MM, TT, s0, ρ, u, y, ss, ts, deep, w, n', rfl, (by omega), ⟨te2, kb, k1.up x2, by omega, rok, exS_dq s3 xb hI⟩, h1, h2, hcc, ?_⟩
    exact q.same xb (nn3 te2.tl (k1.up x2))
  | @whl n' v ss hv h1 =>
    refine g_no (twN "try" none H1 s_try (by rw [ew rfl]; decide)) fun H2 x2 => ?_
    refine g_yes (twY "while" none H2 s_while (ew rfl)) fun H3 x3 => ?_
    have te3 := (te1.up x2).up x3
    have xb := (xa.trans (exS x2)).trans (exS x3)
    have k3 := ((k1.up x2).up x3).le (show c - 1 - s0.l ≤ c - s0.l by omega)
    refine ⟨.ref p, rfl, p, dxp, _, rfl, te3.tl.ins, rfl, u, rfl, .ref kd, rfl, .int (deep : Nat), rfl, c, b, p, dxp, tup, sp, kd, hs, MM, TT, s0, ρ, u, v, ss, deep, w, n', rfl, (by omega), ⟨te3, kb, k3, hcc, rok, exS_dq s3 xb hI⟩, hv, h1, ?_⟩
    exact q.same xb (nn3 te3.tl k3)
  | @set n' y v hy hv =>
    rw [s_set] at q
    refine g_no (twN "try" none H1 s_try (by rw [ew rfl]; decide)) fun H2 x2 => ?_
    refine g_no (twN "while" none H2 s_while (by rw [ew rfl]; decide)) fun H3 x3 => ?_
    refine g_yes (twY "set" none H3 s_set' (ew rfl)) fun H4 x4 => ?_
    have x14 := (x2.trans x3).trans x4
    have te4 := te1.up x14
    have xb := xa.trans (exS x14)
    have k4 := k1.up x14
    refine ⟨.ref p, rfl, p, dxp, _, rfl, te4.tl.ins, rfl, ?_⟩
    refine (ed_ixT (K := K) (b := b) (σ := [some (.ref p), some u, some (.ref kd), some (.int (deep : Nat)), some (.str wd), none]) (ed_var (i := 1) rfl (exS_dq s3 xb hI)) (ed_int (i := 2)) (atI2 (PyData.str "set") (.str y) v [])) H4 (Ex.refl H4) _ fun uv H5 x5 huv => ?_
    have te5 := te4.up x5
    have xc := xb.trans (exS x5)
    have vok := S.v deep ρ s0 v w rok hv
    refine ⟨.ref kd, rfl, .int (deep : Nat), rfl, b, p, dxp, tup, sp, kd, hs, MM, TT, s0, ρ, uv, v, deep, w, rfl, (by omega), ⟨te5, kb, ⟨_, k4.up x5⟩, rok, huv, hv⟩, ?_⟩
    rcases er : (sem TT n).v deep ρ s0 v with ⟨r, s1⟩
    rw [er] at q vok
    have le1 : SttLe s0 s1 := vok.1
    have le1' := le1.le
    have k5 : KnD kd ρ (c - 1 - s1.l) H5 := (k4.up x5).le (by omega)
    have k5' : KnD kd ρ (c - s1.l) H5 := k5.le (by omega)
    cases r with
    | f j => exact GEnd.ret (r := .f j) q xc te5.tl k5' fun _ h => nomatch h
    | l => exact GEnd.ret (r := .l) q xc te5.tl k5' fun _ h => nomatch h
    | s => exact q.elim
    | w i =>
    have q : ∀ H', ExS [p, sp, kd] H H' → Tl CT p dxp tup sp s1 H' → KnD kd (putE ρ y i) (c - s1.l) H' → Q .non H' := q
    intro H6 x6 t6
    have te6 := te5.next2 x6 t6 (ok0.le le1)
    have xd := xc.trans (x6.mono mem23)
    have k6 := k5.at te5.tl x6
    refine ⟨.ref kd, rfl, ?_⟩
    refine (ed_ixT (K := K) (b := b) (σ := [some (.ref p), some u, some (.ref kd), some (.int (deep : Nat)), some (.str wd), none]) (ed_var (i := 1) rfl (exS_dq s3 xd hI)) (ed_int (i := 1)) (atI1 (PyData.str "set") (.str y) [v])) H6 (Ex.refl H6) _ fun vy H7 x7 hvy => ?_
    have evy := dq_str hvy
    subst evy
    obtain ⟨kvs, hk, hkl, hkv⟩ := k6.up x7
    have t7 := t6.up x7
    have s1n : 0 ≤ s1.l := te6.ok.nn
    refine ⟨kd, _, rfl, .inl ⟨kvs, Sum.inr y, hk, rfl, by rw [hsl]; omega, rfl⟩, ?_⟩
    refine q _ (fun c o mm z => ?_) ⟨by rw [upd_ne (Ne.symm kp)]; exact t7.ins, by rw [upd_ne (Ne.symm ks)]; exact t7.spk⟩ ⟨_, upd_same, ?_, kn_put hkv⟩
    · rw [upd_ne (fun e => mm (by rw [e]; exact List.mem_cons_of_mem _ (List.mem_cons_of_mem _ List.mem_cons_self)))]
      exact x7 _ _ (xd _ _ mm z)
    · have := length_putK kvs (Sum.inr y) (.int i)
      omega
  | @ite n' v ss ts hv h1 h2 =>
    rw [s_ite] at q
    refine g_no (twN "try" none H1 s_try (by rw [ew rfl]; decide)) fun H2 x2 => ?_
    refine g_no (twN "while" none H2 s_while (by rw [ew rfl]; decide)) fun H3 x3 => ?_
    refine g_no (twN "set" none H3 s_set' (by rw [ew rfl]; decide)) fun H4 x4 => ?_
    have x14 := (x2.trans x3).trans x4
    have te4 := te1.up x14
    have xb := xa.trans (exS x14)
    have k4 := k1.up x14
    refine ⟨.ref p, rfl, p, dxp, _, rfl, te4.tl.ins, rfl, ?_⟩
    refine (ed_ixT (K := K) (b := b) (σ := [some (.ref p), some u, some (.ref kd), some (.int (deep : Nat)), some (.str wd), none]) (ed_var (i := 1) rfl (exS_dq s3 xb hI)) (ed_int (i := 1)) (atI1 (PyData.str "if") v [.tuple ss, .tuple ts])) H4 (Ex.refl H4) _ fun uv H5 x5 huv => ?_
    have te5 := te4.up x5
    have xc := xb.trans (exS x5)
    have vok := S.v deep ρ s0 v w rok hv
    refine ⟨.ref kd, rfl, .int (deep : Nat), rfl, b, p, dxp, tup, sp, kd, hs, MM, TT, s0, ρ, uv, v, deep, w, rfl, (by omega), ⟨te5, kb, ⟨_, k4.up x5⟩, rok, huv, hv⟩, ?_⟩
    rcases er : (sem TT n).v deep ρ s0 v with ⟨r, s1⟩
    rw [er] at q vok
    have le1 : SttLe s0 s1 := vok.1
    have le1' := le1.le
    have k5' : KnD kd ρ (c - s1.l) H5 := (k4.up x5).le (by omega)
    cases r with
    | f j => exact GEnd.ret (r := .f j) q xc te5.tl k5' fun _ h => nomatch h
    | l => exact GEnd.ret (r := .l) q xc te5.tl k5' fun _ h => nomatch h
    | s => exact q.elim
    | w i =>
    have q : GEnd CF CB CT p dxp tup sp kd c H ((sem TT n).g deep ρ s1 (if i = 0 then ts else ss)) Q E := q
    intro H6 x6 t6
    have te6 := te5.next2 x6 t6 (ok0.le le1)
    have xd := xc.trans (x6.mono mem23)
    have k6 := k5'.at te5.tl x6
    refine gas ?_
    refine g_yes (twY "if" _ H6 s_if (ew rfl)) fun H7 x7 => ?_
    have te7 := te6.up x7
    have xe := xd.trans (exS x7)
    have hu7 := exS_dq s3 xe hI
    refine ⟨.ref p, rfl, p, dxp, _, rfl, te7.tl.ins, rfl, ?_⟩
    have tn := et_t (ed_ne (K := K) (b := b) (ed_var (σ := [some (.ref p), some u, some (.ref kd), some (.int (deep : Nat)), some (.str wd), some (.int i)]) (H := H7) (i := 5) (d := .int i) rfl (.int _)) (ed_int (i := 0)) (sh_int _) (sh_int _))
    rw [eqv_int] at tn
    have e2 := ed_ixT (K := K) (b := b) (σ := [some (.ref p), some u, some (.ref kd), some (.int (deep : Nat)), some (.str wd), some (.int i)]) (ed_var (i := 1) rfl hu7) (ed_int (i := 2)) (atI2 (PyData.str "if") v (.tuple ss) [.tuple ts])
    have e3 := ed_ixT (K := K) (b := b) (σ := [some (.ref p), some u, some (.ref kd), some (.int (deep : Nat)), some (.str wd), some (.int i)]) (ed_var (i := 1) rfl hu7) (ed_int (i := 3)) (show atI [PyData.str "if", v, .tuple ss, .tuple ts] 3 = some (.tuple ts) from atI_nat (j := 3) rfl)
    have ed := ed_if tn (fun _ => e2) fun _ => e3
    have eds : (if (!(i == 0)) = true then PyData.tuple ss else .tuple ts) = .tuple (if i = 0 then ts else ss) := by
      by_cases c : i = 0
      · rw [if_pos c, c]; rfl
      · rw [if_neg c, beq_eq_false_iff_ne.mpr c]; rfl
    rw [eds] at ed
    refine ed H7 (Ex.refl H7) _ fun us H8 x8 hus => ?_
    have te8 := te7.up x8
    have k8 := (k6.up x7).up x8
    refine ⟨.ref kd, rfl, .int (deep : Nat), rfl, c, b, p, dxp, tup, sp, kd, hs, MM, TT, s1, ρ, us, _, deep, w, n', rfl, (by omega), ⟨te8, kb, k8, hcc, rok, hus⟩, by split <;> assumption, ?_⟩
    exact q.same (xe.trans (exS x8)) (nn3 te8.tl k8)
  | @one n' o v ho hv =>
    rw [s_one] at q
    have nw := oneW_ok ho
    have eo : wd = o := ew rfl
    refine g_no (twN "try" none H1 s_try (by rw [eo]; exact nw.2.1)) fun H2 x2 => ?_
    refine g_no (twN "while" none H2 s_while (by rw [eo]; exact nw.2.2.1)) fun H3 x3 => ?_
    refine g_no (twN "set" none H3 s_set' (by rw [eo]; exact nw.2.2.2.1)) fun H4 x4 => ?_
    have x14 := (x2.trans x3).trans x4
    have te4 := te1.up x14
    have xb := xa.trans (exS x14)
    have k4 := k1.up x14
    refine ⟨.ref p, rfl, p, dxp, _, rfl, te4.tl.ins, rfl, ?_⟩
    refine (ed_ixT (K := K) (b := b) (σ := [some (.ref p), some u, some (.ref kd), some (.int (deep : Nat)), some (.str wd), none]) (ed_var (i := 1) rfl (exS_dq s3 xb hI)) (ed_int (i := 1)) (atI1 (PyData.str o) v [])) H4 (Ex.refl H4) _ fun uv H5 x5 huv => ?_
    have te5 := te4.up x5
    have xc := xb.trans (exS x5)
    have vok := S.v deep ρ s0 v w rok hv
    refine ⟨.ref kd, rfl, .int (deep : Nat), rfl, b, p, dxp, tup, sp, kd, hs, MM, TT, s0, ρ, uv, v, deep, w, rfl, (by omega), ⟨te5, kb, ⟨_, k4.up x5⟩, rok, huv, hv⟩, ?_⟩
    rcases er : (sem TT n).v deep ρ s0 v with ⟨r, s1⟩
    rw [er] at q vok
    have le1 : SttLe s0 s1 := vok.1
    have le1' := le1.le
    have k5' : KnD kd ρ (c - s1.l) H5 := (k4.up x5).le (by omega)
    cases r with
    | f j => exact GEnd.ret (r := .f j) q xc te5.tl k5' fun _ h => nomatch h
    | l => exact GEnd.ret (r := .l) q xc te5.tl k5' fun _ h => nomatch h
    | s => exact q.elim
    | w i =>
    have q : GEnd CF CB CT p dxp tup sp kd c H (oneF (sem TT n) deep o ρ s1 i) Q E := q
    have wi : Wth i := vok.2 i (.inl rfl)
    intro H6 x6 t6
    have te6 := te5.next2 x6 t6 (ok0.le le1)
    have xd := xc.trans (x6.mono mem23)
    have k6 := k5'.at te5.tl x6
    refine gas ?_
    refine g_no (twN "if" _ H6 s_if (by rw [eo]; exact nw.2.2.2.2)) fun H7 x7 => ?_
    unfold oneF at q
    have te7 := te6.up x7
    have xe := xd.trans (exS x7)
    by_cases c1 : o = "throw"
    · rw [if_pos c1] at q
      have q : ∀ dx Hf, H dx = none → ExS [p, sp, kd] H Hf → Tl CT p dxp tup sp s1 Hf → KnD kd ρ (c - s1.l) Hf → Hf dx = some (.xd [("number", .int i)]) → E (.ref CF) (some dx) Hf := q
      refine g_yes (twY "throw" _ H7 s_throw (eo.trans c1)) fun H8 x8 => ?_
      have te8 := te7.up x8
      have k8 := (k6.up x7).up x8
      refine mk_ft T.T T.n (bigW wi) ⟨.int i, rfl, rfl, rfl⟩ (fun dx Hf hdx xf hfx => ?_) fun Q Q' hq ⟨v, e, z⟩ => ⟨v, e, hq _ _ z⟩
      exact q dx Hf (exS_none (xe.trans (exS x8)) (nn3 te8.tl k8) hdx) ((xe.trans (exS x8)).trans (exS xf)) (te8.tl.up xf) (k8.up xf) hfx
    rw [if_neg c1] at q
    refine g_no (twN "throw" _ H7 s_throw (by rw [eo]; exact c1)) fun H8 x8 => ?_
    have te8 := te7.up x8
    have k8 := (k6.up x7).up x8
    have xf := xe.trans (exS x8)
    by_cases c2 : o = "back"
    · rw [if_pos c2] at q
      have q : ∀ H', ExS [p, sp, kd] H H' → Tl CT p dxp tup sp s1 H' → KnD kd ρ (c - s1.l) H' → Q (.int i) H' := q
      refine g_yes (twY "back" _ H8 s_back (eo.trans c2)) fun H9 x9 => ?_
      exact ⟨.int i, rfl, q H9 (xf.trans (exS x9)) (te8.tl.up x9) (k8.up x9)⟩
    rw [if_neg c2] at q
    have q : ∀ H', ExS [p, sp, kd] H H' → Tl CT p dxp tup sp ⟨s1.l, s1.said ++ [i]⟩ H' → KnD kd ρ (c - s1.l) H' → Q .non H' := q
    refine g_no (twN "back" _ H8 s_back (by rw [eo]; exact c2)) fun H9 x9 => ?_
    have te9 := te8.up x9
    have k9 := k8.up x9
    have xg := xf.trans (exS x9)
    have few := te9.ok.few
    have nn := te9.ok.nn
    have few : (s1.said.length : Int) + s1.l ≤ 100 := few
    have nn : 0 ≤ s1.l := nn
    have t9 : Tl CT p dxp tup sp s1 H9 := te9.tl
    refine ⟨.ref p, rfl, p, CT, dxp, _, .ref sp, rfl, t9.ins, C.c, C.nS, rfl, .inl ⟨rfl, _, .inl (.inl t9.spk)⟩, .int i, rfl, sp, _, .int i, rfl, rfl, t9.spk, by rw [List.length_map, hsl]; omega, ?_⟩
    obtain ⟨kvs, hk, hkl, hkv⟩ := k9
    refine q _ (fun c o mm z => ?_) ⟨by rw [upd_ne ne]; exact t9.ins, by rw [upd_same, List.map_append]; rfl⟩ ⟨kvs, by rw [upd_ne ks]; exact hk, hkl, hkv⟩
    rw [upd_ne (fun e => mm (by rw [e]; exact List.mem_cons_of_mem _ List.mem_cons_self))]
    exact xg _ _ mm z
end
end Wr

set_option Elab.async false
set_option linter.all false
set_option maxRecDepth 100000
set_option maxHeartbeats 4000000
namespace Wr
open PySem PySem.Spec PyProof.Rows L2 Evl
def nextG (k : Env' → Stt → RG × Env' × Stt) (r : RG × Env' × Stt) : RG × Env' × Stt := match r with
  | (.n, ρ1, s1) => k ρ1 s1
  | r => r
def oneG (T : Tt) (F : Sem) (deep : Nat) (ρ : Env') (s : Stt) (d : PyData) : RG × Env' × Stt := if s.l ≤ 0 then (.l, ρ, s) else sStep T F deep ρ ⟨s.l - 1, s.said⟩ d
theorem g_cons {T : Tt} {F : Sem} {deep : Nat} {ρ : Env'} {s : Stt} {d : PyData} {ds : List PyData} : gStep T F deep ρ s (d :: ds) = nextG (fun ρ s => gStep T F deep ρ s ds) (oneG T F deep ρ s d) := by
  rw [gStep]
  unfold oneG
  split
  · rfl
  · rcases sStep T F deep ρ ⟨s.l - 1, s.said⟩ d with ⟨r, ρ1, s1⟩
    cases r <;> rfl
theorem oneG_ok {hs : Hds} {M : Nat} {T : Tt} {F : Sem} {deep w m : Nat} {ρ : Env'} {s : Stt} {d : PyData} (hT : TtOk hs M T) (hF : SemOk hs F) (hρ : ρ.ok) (hd : SaP hs w m d) : GOk (oneG T F deep ρ s d) s := by
  unfold oneG
  split
  · exact ⟨SttLe.refl s, hρ, fun j e => by rcases e with e | e <;> cases e⟩
  · rename_i hl
    exact (sstep_ok hT hF hρ hd).count hl
section
variable {P : Program} {w : World} {K : PySem.W.Frag} {mg : Str → Option Value} {base : Heap} {CF fI CB CT f g g2 g3 : Addr} {fdI fd gd gd2 gd3 : FuncData}
theorem ok_gt0 {k : Nat} : FnOk P w K mg base (L2N.CX P w) k f fd PaL (spGT K CF CB CT k 0) := fnok_none fun vs H Q E ⟨_, _, _, _, _, _, _, _, _, _, _, _, _, _, _, _, _, _, _, _, _, q⟩ => q
theorem ok_gt (n k : Nat) (C : TlC K CT) (M : TmC K CT "go_through" "Telling.go_through" s_gt PaL f fd)
    (M1 : TmC K CT "go_through_one" "Telling.go_through_one" s_g1 PaS g gd) (G1 : FnOk P w K mg base (L2N.CX P w) k g gd PaS (spG1 K CF CB CT k n)) :
    FnOk P w K mg base (L2N.CX P w) (k + 1) f fd PaL (spGT K CF CB CT (k + 1) (n + 1)) := by
  refine okN M.F sc_gt (fun vs H Q E ⟨c, b, p, dxp, tup, sp, kd, hs, MM, TT, s, ρ, u, ds, deep, w, m, e, _⟩ => by rw [e]; rfl) (fun cdv A outer sh H vs Q E hr h => ?_)
  obtain ⟨c, b, p, dxp, tup, sp, kd, hs, MM, TT, s, ρ, u, ds, deep, w, m, rfl, h12, I, hds, q⟩ := h
  refine ⟨_, pss_cons (ps_for (passes_of rfl) rfl (pi_tup (pv 1)) (pg_name (i := 4) sc_gt.nd rfl (Or.inl rfl))
      (pss_cons (ps_set (i := 5) sc_gt.nd rfl (Or.inl rfl) (pe_methX (E := WE fun cls d _ H => E cls d H) (pv 0) C.c M1.at_ G1 hr M1.b (fun σ => L2N.passAt (L2N.takes_of rfl rfl rfl rfl) σ) (pa_cons (pv 4) (pa_cons (pv 2) (pa_cons (pv 3) pa_nil)))))
      (pss_one (ps_if (pt_cmp (pc_notN (pv 5))) (pss_one (ps_ret (pv 5))) pss_nil))))
    (pss_one (ps_ret pe_non)), ?_⟩
  have S := sem_ok I.te.hT n
  have q : GEnd CF CB CT p dxp tup sp kd c H (gStep TT (sem TT n) deep ρ s ds) Q E := q
  have te := I.te
  have hu' := I.hu
  cases hu' with
  | @tup ta xs' _ g1 gn g2 =>
  have hl := dps_len g2
  have keep : ∀ {H'}, ExS [p, sp, kd] H H' → Ex (hid b H) (hid b H') := fun x => hid_exS (te.s3 I.kb) x
  refine ⟨.ref ta, rfl, ta, rfl, ⟨xs', ex_t hid_le g1⟩, ?_⟩
  refine for_tup (xs := xs') (Pv := fun i σ' H' => (∃ y4 y5, σ' = [some (.ref p), some (.ref ta), some (.ref kd), some (.int (deep : Nat)), y4, y5]) ∧ ∃ ρ1 s1, ExS [p, sp, kd] H H' ∧ Tl CT p dxp tup sp s1 H' ∧ KnD kd ρ1 (c - s1.l) H' ∧ ρ1.ok ∧ SttLe s s1 ∧ GEnd CF CB CT p dxp tup sp kd c H (gStep TT (sem TT n) deep ρ1 s1 (ds.drop i)) Q E) ?_ ?_ ?_ ?_
  · exact ⟨⟨none, none, rfl⟩, ρ, s, ExS.refl, te.tl, I.kd, I.ρ, SttLe.refl s, q⟩
  · rintro i σ' H' _ ⟨_, ρ1, s1, x', _⟩
    exact ex_t (fun c o z => hid_le _ _ (keep x' _ _ z)) g1
  · rintro i x σ' H' hx ⟨⟨y4, y5, rfl⟩, ρ1, s1, x1, t1, k1, rok, le1, q1⟩
    obtain ⟨d, hd, dd⟩ := dps_at g2 hx
    obtain ⟨hil, eei⟩ := List.getElem?_eq_some_iff.mp hd
    have edr := List.drop_eq_getElem_cons hil
    rw [eei] at edr
    rw [edr, g_cons] at q1
    have hdm := hds d (List.mem_of_getElem? hd)
    have te1 := te.next3 I.kb x1 t1 k1 (te.ok.le le1)
    have gok := oneG_ok (deep := deep) (s := s1) te.hT S rok hdm
    refine ⟨.ref p, rfl, p, dxp, _, rfl, t1.ins, rfl, x, rfl, .ref kd, rfl, .int (deep : Nat), rfl, c, b, p, dxp, tup, sp, kd, hs, MM, TT, s1, ρ1, x, d, deep, w, m, rfl, (by omega), ⟨te1, I.kb, k1, I.c, rok, exS_dq (te.s3 I.kb) x1 dd⟩, hdm, ?_⟩
    show GEnd CF CB CT p dxp tup sp kd c H' (oneG TT (sem TT n) deep ρ1 s1 d) _ _
    rcases er : oneG TT (sem TT n) deep ρ1 s1 d with ⟨r, ρ2, s2⟩
    rw [er] at q1 gok
    have le2 : SttLe s1 s2 := gok.1
    have n3 := nn3 t1 k1
    cases r with
    | f j => exact GEnd.same (r := (.f j, ρ2, s2)) q1 x1 n3
    | l => exact GEnd.same (r := (.l, ρ2, s2)) q1 x1 n3
    | s => exact q1.elim
    | n =>
      have q1 : GEnd CF CB CT p dxp tup sp kd c H (gStep TT (sem TT n) deep ρ2 s2 (ds.drop (i + 1))) Q E := q1
      intro H2 x2 t2 k2
      refine gas ?_
      refine ⟨.non, rfl, _, rfl, ?_⟩
      show ite (false = true) _ _
      rw [if_neg Bool.false_ne_true]
      exact ⟨⟨_, _, rfl⟩, ρ2, s2, x1.trans x2, t2, k2, gok.2.1, le1.trans le2, q1⟩
    | b j =>
      have q1 : ∀ H', ExS [p, sp, kd] H H' → Tl CT p dxp tup sp s2 H' → KnD kd ρ2 (c - s2.l) H' → Q (.int j) H' := q1
      intro H2 x2 t2 k2
      refine gas ?_
      refine ⟨.int j, rfl, _, rfl, ?_⟩
      show ite (true = true) _ _
      rw [if_pos rfl]
      exact ⟨.int j, rfl, q1 H2 (x1.trans x2) t2 k2⟩
  · rintro σ' H' ⟨⟨y4, y5, rfl⟩, ρ1, s1, x1, t1, k1, rok, le1, q1⟩
    rw [hl, List.drop_length] at q1
    exact q1 H' x1 t1 k1
/-- all of them, level by level -/
structure TmAll (K : PySem.W.Frag) (CT fW fG f1 fY fH fC fB fN : Addr) (dW dG d1 dY dH dC dB dN : FuncData) : Prop where
  mW : TmC K CT "worth_of" "Telling.worth_of" s_wo PaW fW dW
  mG : TmC K CT "go_through" "Telling.go_through" s_gt PaL fG dG
  m1 : TmC K CT "go_through_one" "Telling.go_through_one" s_g1 PaS f1 d1
  mY : TmC K CT "go_through_try" "Telling.go_through_try" s_ty PaS fY dY
  mH : TmC K CT "go_through_while" "Telling.go_through_while" s_wh PaS fH dH
  mC : TmC K CT "called" "Telling.called" s_cd PaG fC dC
  mB : TmC K CT "given_back" "Telling.given_back" s_gb PaG fB dB
  mN : TmC K CT "count_one" "Telling.count_one" s_co ["self"] fN dN
theorem ok_lv {fW fG f1 fY fH fC fB fN : Addr} {dW dG d1 dY dH dC dB dN : FuncData} (A : TmAll K CT fW fG f1 fY fH fC fB fN dW dG d1 dY dH dC dB dN) (T : FtC K mg CF fI fdI) (TB : TbC K mg CB) (te : PySem.W.exmOne K (.ref CF) (.ref CF) = some true) (tb : PySem.W.exmOne K (.ref CB) (.ref CF) = some false) (XT : XfC K CF) (C : TlC K CT)
    (D1 : Def K mg "op_outcome" s_oo ["op", "one", "other"] g gd) (G1 : FnOk P w K mg base CX0 3 g gd ["op", "one", "other"] (spP K OpPre (opOf fun o i j => outD (opR o i j)))) (B : Blt mg) {t1 t2 t3 : Tok} (mN : mg "NOT_SET" = some (.int (-3) t1)) (mM : mg "MOST_BEGUN" = some (.int 12 t2)) (mD : mg "TOO_DEEP" = some (.int (-4) t3)) (zz : mg "zip" = none) :
    ∀ n k, FnOk P w K mg base (L2N.CX P w) k fW dW PaW (spW K CF CB CT k n) ∧ FnOk P w K mg base (L2N.CX P w) k fG dG PaL (spGT K CF CB CT k n)
  | 0, k => ⟨ok_wo0, ok_gt0⟩
  | n + 1, k => by
    have hh := ok_lv A T TB te tb XT C D1 G1 B mN mM mD zz n
    by_cases hk : k < 8
    · exact ⟨fnok_none fun vs H Q E ⟨_, _, _, _, _, _, _, _, _, _, _, _, _, _, _, _, z, _⟩ => by omega, fnok_none fun vs H Q E ⟨_, _, _, _, _, _, _, _, _, _, _, _, _, _, _, _, _, _, z, _⟩ => by omega⟩
    obtain ⟨j, rfl⟩ : ∃ j, k = j + 4 := ⟨k - 4, by omega⟩
    have hB := ok_gb n (j + 1) C A.mB A.mG (hh (j + 1)).2 zz
    have hC := ok_cd n (j + 2) T C A.mC A.mB hB mM mD
    have hN := ok_co (P := P) (w := w) (mg := mg) (base := base) C TB A.mN
    have hY := ok_ty n (j + 1) T te tb XT C A.mY A.mG (hh (j + 1)).2
    have hH := ok_wh n (j + 1) C A.mH A.mG (hh (j + 1)).2 A.mW (hh (j + 1)).1 A.mN hN
    have h1 := ok_g1 n (j + 2) T C A.m1 A.mG (hh (j + 2)).2 A.mY hY A.mW (hh (j + 2)).1 A.mN hN A.mH hH
    exact ⟨ok_wo n (j + 3) T C A.mW (hh (j + 3)).1 A.mC hC D1 G1 B mN, ok_gt n (j + 3) C A.mG A.m1 h1⟩
theorem ok_gbn {fW fG f1 fY fH fC fB fN : Addr} {dW dG d1 dY dH dC dB dN : FuncData} (A : TmAll K CT fW fG f1 fY fH fC fB fN dW dG d1 dY dH dC dB dN) (T : FtC K mg CF fI fdI) (TB : TbC K mg CB) (te : PySem.W.exmOne K (.ref CF) (.ref CF) = some true) (tb : PySem.W.exmOne K (.ref CB) (.ref CF) = some false) (XT : XfC K CF) (C : TlC K CT)
    (D1 : Def K mg "op_outcome" s_oo ["op", "one", "other"] g gd) (G1 : FnOk P w K mg base CX0 3 g gd ["op", "one", "other"] (spP K OpPre (opOf fun o i j => outD (opR o i j)))) (B : Blt mg) {t1 t2 t3 : Tok} (mN : mg "NOT_SET" = some (.int (-3) t1)) (mM : mg "MOST_BEGUN" = some (.int 12 t2)) (mD : mg "TOO_DEEP" = some (.int (-4) t3)) (zz : mg "zip" = none) (n k : Nat) :
    FnOk P w K mg base (L2N.CX P w) (k + 1) fB dB PaG (spGb K CF CB CT (k + 1) n) := ok_gb n k C A.mB A.mG (ok_lv A T TB te tb XT C D1 G1 B mN mM mD zz n k).2 zz
end
end Wr

set_option Elab.async false
set_option linter.all false
set_option maxRecDepth 100000
set_option maxHeartbeats 4000000
namespace Wr
open PySem PySem.Spec PyProof.Rows L2 Evl
abbrev Tup := Str × List Str × List PyData
def Tup' (e : Tup) : PyData := .tuple [.str e.1, .tuple (e.2.1.map PyData.str), .tuple e.2.2]
def treeT (ts : List Tup) : PyData := .tuple (ts.map Tup')
/-- the last one of a name -/
def tOf (ts : List Tup) : Tt := ts.foldl (fun T e => fun y => if y = e.1 then some e.2 else T y) fun _ => none
theorem tOf_snoc (ts : List Tup) (e : Tup) (y : Str) : tOf (ts ++ [e]) y = if y = e.1 then some e.2 else tOf ts y := by
  unfold tOf
  rw [List.foldl_append]
  rfl
/-- how it ends, as a datum -/
def endD : RV → PyData
  | .w i => .tuple [.str "back", .int i]
  | .f i => .tuple [.str "fault", .int i]
  | .l => .tuple [.str "long"]
  | .s => .none
abbrev s_in : Stmt := inClass (topS 17) 0
abbrev s_eo : Stmt := inClass (topS 17) 1
abbrev s_me : Stmt := topS 16
abbrev PEo : List Str := ["self", "part", "numbers"]
abbrev NEo : List Str := ["self", "part", "numbers", "fault"]
theorem sc_eo : FnScope NEo PEo (defScope s_eo) := ⟨rfl, rfl, rfl, by decide +kernel, rfl, by decide +kernel, by decide +kernel⟩
abbrev NIn : List Str := ["self", "tree", "most", "name", "names", "sayings"]
theorem sc_in : FnScope NIn ["self", "tree", "most"] (defScope s_in) := ⟨rfl, rfl, rfl, by decide +kernel, rfl, by decide +kernel, by decide +kernel⟩
abbrev PMe : List Str := ["tree", "part", "numbers", "most"]
abbrev NMe : List Str := ["tree", "part", "numbers", "most", "telling", "end"]
theorem sc_me : FnScope NMe PMe (defScope s_me) := ⟨rfl, rfl, rfl, by decide +kernel, rfl, by decide +kernel, by decide +kernel⟩
def begun (T : Tt) (n : Nat) (t : List Str × List PyData) (is : List Int) (s : Stt) : RV × Stt := (outG ((sem T n).g 1 (envOf t.1 is) s t.2).1, ((sem T n).g 1 (envOf t.1 is) s t.2).2.2)
def spEo (K : PySem.W.Frag) (CT : Addr) (n : Nat) : Sp := fun vs H Q _ => ∃ b p dxp tup sp hs M T s x t is u, ∃ (tp : Bool), vs = [.ref p, .str x, .ref u] ∧ Te K CT b p dxp tup sp hs M T s H ∧ T x = some t ∧ t.1.length = is.length ∧ (∀ i ∈ is, Wth i) ∧ SqB tp K H u (is.map V.int) ∧ (begun T n t is s).1 ≠ .s ∧
  ∀ v H', ExS [p, sp] H H' → Tl CT p dxp tup sp (begun T n t is s).2 H' → Kn b H' → Dq K b H' v (endD (begun T n t is s).1) → Q v H'
def spIn (K : PySem.W.Frag) (CT : Addr) : Sp := fun vs H Q _ => ∃ b p dxp tv l ts, vs = [.ref p, tv, .int l] ∧ Kn b H ∧ p ∈ b ∧ H p = some (.ins CT dxp []) ∧ Dq K b H tv (treeT ts) ∧ ts.length ≤ 100 ∧
  ∀ H' tup sp, ExS [p] H H' → H sp = none → sp ≠ p → H' p = some (.ins CT dxp (tf tup sp l)) → H' sp = some (.lst []) → tup ∉ sp :: b → (∃ kvs, H' tup = some (.dK kvs) ∧ ∀ x t, tOf ts x = some t → ∃ a, valV kvs (Sum.inr x) = some (.ref a) ∧ Dq K (sp :: b) H' (.ref a) (.tuple [.tuple (t.1.map PyData.str), .tuple t.2])) → Q .non H'
def spMe (K : PySem.W.Frag) (n : Nat) : Sp := fun vs H Q _ => ∃ b tv ts hs M x t is u l, ∃ (tp : Bool), vs = [tv, .str x, .ref u, .int l] ∧ Kn b H ∧ Dq K b H tv (treeT ts) ∧ ts.length ≤ 100 ∧ TtOk hs M (tOf ts) ∧ tOf ts x = some t ∧ t.1.length = is.length ∧ (∀ i ∈ is, Wth i) ∧ SqB tp K H u (is.map V.int) ∧ 0 ≤ l ∧ l ≤ 100 ∧ (begun (tOf ts) n t is ⟨l, []⟩).1 ≠ .s ∧
  ∀ v H', Ex H H' → Dq K b H' v (.tuple [.tuple ((begun (tOf ts) n t is ⟨l, []⟩).2.said.map PyData.int), endD (begun (tOf ts) n t is ⟨l, []⟩).1]) → Q v H'
theorem ints_dd {K : PySem.W.Frag} {H : Hp} : ∀ s : List Int, DdAll K H (s.map V.int) (s.map PyData.int)
  | [] => .nil
  | i :: s => .cons (.int i) (ints_dd s)
section
variable {P : Program} {w : World} {K : PySem.W.Frag} {mg : Str → Option Value} {base : Heap} {CF fI CB CT f g g2 g3 : Addr} {fdI fd gd gd2 gd3 : FuncData}
theorem ok_eo (n k : Nat) (h199 : 199 ≤ k) (T : FtC K mg CF fI fdI) (TB : TbC K mg CB) (te : PySem.W.exmOne K (.ref CF) (.ref CF) = some true) (tb : PySem.W.exmOne K (.ref CB) (.ref CF) = some false) (tbb : PySem.W.exmOne K (.ref CB) (.ref CB) = some true) (XT : XfC K CF) (C : TlC K CT) (M : TmC K CT "end_of" "Telling.end_of" s_eo PEo f fd)
    (M1 : TmC K CT "given_back" "Telling.given_back" s_gb PaG g gd) (G1 : FnOk P w K mg base (L2N.CX P w) k g gd PaG (spGb K CF CB CT k n)) :
    FnOk P w K mg base CX0 (k + 1) f fd PEo (spEo K CT n) := by
  refine M.F.ok sc_eo (fun vs H Q E ⟨b, p, dxp, tup, sp, hs, MM, TT, s, x, t, is, u, tp, e, _⟩ => by rw [e]; rfl) (fun cdv A outer sh H vs Q E hr h => ?_)
  obtain ⟨b, p, dxp, tup, sp, hs, MM, TT, s, x, t, is, u, tp, rfl, I, et, el, wi, hsq, hne, q⟩ := h
  refine ⟨_, pss_one (ps_try_cl rfl rfl sc_eo.nd
      (fun W pn xe tkk _ => pss_one (ps_ret (pe_tupF (pa_cons pe_str (pa_cons (pe_methX (E := WE W) (pv 0) C.c M1.at_ G1 hr M1.b (fun σ => L2N.passAt tkk σ) (pa_cons (pv 1) (pa_cons (pv 2) (pa_cons pe_int pa_nil)))) pa_nil)))))
      (.named (i := 3) ⟨rfl, by decide, .inl T.m⟩ rfl rfl (fun a oe cls d pn hz hf => pss_one (ps_ret (pe_tupF (pa_cons pe_str (pa_cons (pe_xf XT T.n hz.zc hf (pv 3)) pa_nil)))))
      (.bare ⟨rfl, by decide, .inl TB.m⟩ (fun a oe cls d pn hz hf => pss_one (ps_ret (pe_tupF (pa_cons pe_str pa_nil)))) .nil))), ?_⟩
  have hsl : sizeLine = 16777216 := sizeLine_eq
  refine ⟨.ref p, rfl, p, dxp, _, rfl, I.tl.ins, rfl, .str x, rfl, .ref u, rfl, b, p, dxp, tup, sp, hs, MM, TT, s, x, t, is, u, tp, 1, rfl, ⟨by decide, by omega⟩, I, et, el, wi, hsq, ?_⟩
  show VEnd CF CB CT p dxp tup sp H (begun TT n t is s) _ _
  have lok : SttLe s (begun TT n t is s).2 := by
    obtain ⟨_, _, w, m, hM, hsa⟩ := I.hT.ok x t et
    exact ((sem_ok I.hT n).g 1 (envOf t.1 is) s t.2 w m (env_ok wi) hsa).1
  rcases er : begun TT n t is s with ⟨r, s1⟩
  rw [er] at q hne lok
  have knx : ∀ {H'}, ExS [p, sp] H H' → Tl CT p dxp tup sp s1 H' → Kn b H' := fun x' t' => (I.next2 x' t' (I.ok.le lok)).kn
  cases r with
  | w i =>
    intro H' x' t'
    refine ⟨by rw [hsl]; show 2 ≤ 16777216; decide, fun pt o hpt ho => ?_⟩
    have xx := Ex.new (o := HO.frz o (.tup [.str "back", .int i])) hpt
    exact q _ _ (x'.trans (exS xx)) (t'.up xx) ((knx x' t').up xx) (dq_newT (knx x' t') hpt ho (.cons (.str _) (.cons (.int _) .nil)))
  | f i =>
    intro dx Hf hdx x' t' hx
    refine .inl ⟨te, fun ea hea => ?_⟩
    refine ⟨.ref ea, rfl, rfl, rfl, dx, _, .int i, rfl, hx, rfl, by rw [hsl]; show 2 ≤ 16777216; decide, fun pt o hpt ho => ?_⟩
    have xx := Ex.new (o := HO.frz o (.tup [.str "fault", .int i])) hpt
    exact q _ _ (x'.trans (exS xx)) (t'.up xx) ((knx x' t').up xx) (dq_newT (knx x' t') hpt ho (.cons (.str _) (.cons (.int _) .nil)))
  | l =>
    intro Hf x' t'
    refine .inr ⟨tb, .inl ⟨tbb, fun a ha => ?_⟩⟩
    refine ⟨by rw [hsl]; show 1 ≤ 16777216; decide, fun pt o hpt ho => ?_⟩
    have xx := Ex.new (o := HO.frz o (.tup [.str "long"])) hpt
    exact q _ _ (x'.trans (exS xx)) (t'.up xx) ((knx x' t').up xx) (dq_newT (knx x' t') hpt ho (.cons (.str _) .nil))
  | s => exact absurd rfl hne
end
end Wr

set_option Elab.async false
set_option linter.all false
set_option maxRecDepth 100000
set_option maxHeartbeats 4000000
namespace Wr
open PySem PySem.Spec PyProof.Rows L2 Evl
section
variable {P : Program} {w : World} {K : PySem.W.Frag} {mg : Str → Option Value} {base : Heap} {CF fI CB CT f g g2 g3 : Addr} {fdI fd gd gd2 gd3 : FuncData}
theorem ok_in (C : TlC K CT) (M : Fun K "__init__" "Telling.__init__" s_in f fd) : FnOk P w K mg base CX0 1 f fd ["self", "tree", "most"] (spIn K CT) := by
  refine M.ok sc_in (fun vs H Q E ⟨b, p, dxp, tv, l, ts, e, _⟩ => by rw [e]; rfl) (fun cdv A outer s H vs Q E hr h => ?_)
  obtain ⟨b, p, dxp, tv, l, ts, rfl, kn, pb, hp, htv, hts, q⟩ := h
  refine ⟨_, pss_cons (ps_fld (pv 0) (pe_dc (own := [("name", 3), ("names", 4), ("sayings", 5)]) (g := gTup K 3 (gCons (gName 3) (gCons (gName 4) (gCons (gName 5) gNil)))) (tt := tYes) (tk := tVar 3) (tv := tTupF (tCons (tVar 4) (tCons (tVar 5) tNil))) rfl sc_in.nd (pi_tup (pv 1)) (blkOk_by (N := NIn) (sc := defScope s_in) (by decide +kernel))
      (fun _ _ _ _ _ => pg_tup rfl (pgs_cons (pg_name (i := 3) sc_in.nd rfl (Or.inl rfl)) (pgs_cons (pg_name (i := 4) sc_in.nd rfl (Or.inl rfl)) (pgs_cons (pg_name (i := 5) sc_in.nd rfl (Or.inl rfl)) pgs_nil)))) (fun _ _ _ _ _ => pts_nil) (fun _ _ _ _ _ => pv 3) (fun _ _ _ _ _ => pe_tupF (pa_cons (pv 4) (pa_cons (pv 5) pa_nil)))) rfl)
    (pss_cons (ps_fld (pv 0) (pv 2) rfl)
    (pss_one (ps_fld (pv 0) (pe_lst pa_nil) rfl))), ?_⟩
  have hsl : sizeLine = 16777216 := sizeLine_eq
  cases htv with
  | @tup at_ ys _ g1 gn g2 =>
  have ly := dps_len g2
  rw [List.length_map] at ly
  refine ⟨.ref at_, rfl, at_, rfl, ⟨ys, ex_t hid_le g1⟩, fun D hD => ?_⟩
  have hDb : D ∉ b := kn.new hD
  refine dc_tup (xs := ys) (Pv := fun i H' => Ex H H' ∧ ∃ kvs, H' D = some (.dK kvs) ∧ kvs.length ≤ i ∧ ∀ x t, tOf (ts.take i) x = some t → ∃ a, valV kvs (Sum.inr x) = some (.ref a) ∧ Dq K (D :: b) H' (.ref a) (.tuple [.tuple (t.1.map PyData.str), .tuple t.2]))
    ⟨Ex.new hD, [], upd_same, Nat.le_refl _, fun x t h => by rw [List.take_zero] at h; cases h⟩ (fun i H' _ ⟨x', _⟩ => ex_t x' (ex_t hid_le g1)) ?_ ?_
  · rintro i v H1 hv ⟨x1, kvs, hk1, lk1, vk1⟩
    obtain ⟨d, hd, dd⟩ := dps_at g2 hv
    rw [List.getElem?_map] at hd
    cases hz : ts[i]? with
    | none => rw [hz] at hd; cases hd
    | some e =>
    rw [hz] at hd
    have ed : Tup' e = d := Option.some.inj hd
    subst ed
    obtain ⟨hil, eei⟩ := List.getElem?_eq_some_iff.mp hz
    have dd' := dp_ex (hid_ex x1) _ _ (Dq.hide (D := D) dd hD)
    have dd' : Dq K (D :: b) H1 v (.tuple [.str e.1, .tuple (e.2.1.map PyData.str), .tuple e.2.2]) := dd'
    cases dd' with
    | @tup a3 zs _ k1 kn1 k2 =>
    cases k2 with
    | @cons v1 _ _ _ o1 k2 =>
    cases k2 with
    | @cons v2 _ _ _ o2 k2 =>
    cases k2 with
    | @cons v3 _ _ _ o3 k2 =>
    cases k2
    cases o1
    refine ⟨a3, [.str e.1, v2, v3], rfl, ex_t hid_le k1, rfl, _, _, rfl, _, _, rfl, _, _, rfl, rfl, rfl, ?_⟩
    refine et_yes (H := H1) _ (Ex.refl _) _ fun H3 x3 => ?_
    rw [if_pos rfl]
    have x13 := x1.trans x3
    refine ⟨.str e.1, rfl, v2, rfl, v3, rfl, by rw [hsl]; show 2 ≤ 16777216; decide, fun t o hnt ho => ?_⟩
    have x4 := Ex.new (o := HO.frz o (.tup [v2, v3])) hnt
    have hD4 := x4 _ _ (x3 _ _ hk1)
    have lput := length_putK kvs (Sum.inr e.1) (.ref t)
    have il : i < 100 := by omega
    have knD : Kn (D :: b) H3 := fun c hc => by
      rcases List.mem_cons.mp hc with rfl | hc
      · rw [x3 _ _ hk1]; intro z; cases z
      · exact kn.up x13 c hc
    have new0 : Dq K (D :: b) _ (.ref t) (.tuple [.tuple (e.2.1.map PyData.str), .tuple e.2.2]) := dq_newT (o := o) (vs := [v2, v3]) (H := H3) (p := t) (b := D :: b) knD hnt ho (.cons (Dq.up o2 x3) (.cons (Dq.up o3 x3) .nil))
    refine ⟨kvs, Sum.inr e.1, rfl, hD4, by rw [hsl]; omega, fun c o z => ?_, _, upd_same, by omega, fun x t' h => ?_⟩
    · rw [upd_ne (fun e => by rw [e, hD] at z; cases z)]
      exact x4 _ _ (x13 _ _ z)
    · rw [List.take_succ, hz, Option.toList_some, tOf_snoc] at h
      rw [valV_put]
      by_cases ex : x = e.1
      · rw [if_pos ex] at h
        cases h
        rw [if_pos (by rw [ex])]
        exact ⟨t, rfl, dp_ex put_ex _ _ new0⟩
      · rw [if_neg ex] at h
        rw [if_neg (fun z => ex (by injection z))]
        obtain ⟨a, e1, e2⟩ := vk1 x t' h
        exact ⟨a, e1, dp_ex put_ex _ _ (Dq.up e2 (x3.trans x4))⟩
  · rintro H1 ⟨x1, kvs, hD1, lk1, vk1⟩
    rw [ly, List.take_length] at vk1
    have hp1 := x1 _ _ hp
    have nDp : D ≠ p := fun e => by rw [e, hp] at hD; cases hD
    refine ⟨.ref p, rfl, p, CT, dxp, [], rfl, hp1, C.c, C.nT, by decide, ?_⟩
    show tSeq _ _ _ _ _
    refine ⟨.int l, rfl, .ref p, rfl, p, CT, dxp, _, rfl, upd_same, C.c, C.nL, by show 1 < 1000; decide, ?_⟩
    refine ⟨Nat.zero_le _, fun sp hsp => ?_⟩
    have nsp : sp ≠ p := fun e => by rw [e, upd_same] at hsp; cases hsp
    refine ⟨.ref p, rfl, p, CT, dxp, _, rfl, by rw [upd_ne (Ne.symm nsp)]; exact upd_same, C.c, C.nS, by show 2 < 1000; decide, ?_⟩
    have hs1 : H1 sp = none := by
      rw [upd_ne nsp, upd_ne nsp] at hsp
      exact hsp
    have nsD : sp ≠ D := fun e => by rw [e, hD1] at hs1; cases hs1
    have step : ∀ c, c ≠ p → c ≠ sp → ∀ o, H1 c = some o → (upd (upd (upd (upd H1 p (.ins CT dxp (putF "tuples" (.ref D) []))) p (.ins CT dxp (putF "left" (.int l) (putF "tuples" (.ref D) [])))) sp (.lst [])) p (.ins CT dxp (putF "spoken" (.ref sp) (putF "left" (.int l) (putF "tuples" (.ref D) []))))) c = some o := fun c c1 c2 o z => by
      rw [upd_ne c1, upd_ne c2, upd_ne c1, upd_ne c1]
      exact z
    refine q _ D sp (fun c o c1 z => step c (fun e => c1 (by rw [e]; exact List.mem_cons_self)) (fun e => by rw [e] at z; rw [x1 _ _ z] at hs1; cases hs1) o (x1 _ _ z)) ?_ nsp upd_same (by rw [upd_ne nsp]; exact upd_same) (fun m => ?_) ⟨kvs, step D nDp (Ne.symm nsD) _ hD1, fun x t h => ?_⟩
    · cases z : H sp with
      | none => rfl
      | some o => rw [x1 _ _ z] at hs1; cases hs1
    · rcases List.mem_cons.mp m with m | m
      · exact nsD m.symm
      · exact hDb m
    · obtain ⟨a, e1, e2⟩ := vk1 x t h
      refine ⟨a, e1, dp_ex (fun c o z => ?_) _ _ (Dq.hide (D := sp) (dp_ex show_ex _ _ e2) hs1)⟩
      obtain ⟨z1, z2⟩ := hid_some z
      rw [hid_ne z1]
      exact step c (fun e => z1 (by rw [e]; exact List.mem_cons_of_mem _ pb)) (fun e => z1 (by rw [e]; exact List.mem_cons_self)) o z2
variable {dvs : List V} {kws : List (Str × V)}
theorem ok_me (n k : Nat) (hk : 2 ≤ k) (C : TlC K CT) (F : FunD K "meant" "meant" (defArgs s_me) (defBody s_me) (defScope s_me) dvs kws f fd) (mT : mg "Telling" = some (.ref CT)) (M1 : Fun K "__init__" "Telling.__init__" s_in g gd) (b1 : Binds K gd ["self", "tree", "most"] []) (mk : Mk K CT g)
    (M2 : TmC K CT "end_of" "Telling.end_of" s_eo PEo g2 gd2) (G2 : FnOk P w K mg base CX0 k g2 gd2 PEo (spEo K CT n)) (B : Blt mg) :
    FnOk P w K mg base CX0 (k + 1) f fd PMe (spMe K n) := by
  refine F.ok sc_me (fun vs H Q E ⟨b, tv, ts, hs, MM, x, t, is, u, l, tp, e, _⟩ => by rw [e]; rfl) (fun cdv A outer s H vs Q E hr h => ?_)
  obtain ⟨b, tv, ts, hs, MM, x, t, is, u, l, tp, rfl, kn, htv, hts, hT, et, el, wi, hsq, l0, l100, hne, q⟩ := h
  have G1 := ok_in (P := P) (w := w) (mg := mg) (base := base) C M1
  refine ⟨_, pss_cons (ps_set (i := 4) sc_me.nd rfl (Or.inl rfl) (pe_make mk G1 (hr.mono hk) rfl mT b1 .nil pass0 (pa_cons (pv 0) (pa_cons (pv 3) pa_nil))))
    (pss_cons (ps_set (i := 5) sc_me.nd rfl (Or.inl rfl) (pe_meth (pv 4) C.c M2.at_ G2 hr M2.b .nil pass0 (pa_cons (pv 1) (pa_cons (pv 2) pa_nil))))
    (pss_one (ps_ret (pe_tupF (pa_cons (pe_callTy call_tupF rfl B.tuple bt_tuple (pa_cons (pe_fld (pv 4) rfl) pa_nil)) (pa_cons (pv 5) pa_nil)))))), ?_⟩
  have hsl : sizeLine = 16777216 := sizeLine_eq
  refine ⟨tv, rfl, .int l, rfl, fun y dx hx hdx hxd => ?_⟩
  have hxb : y ∉ b := kn.new hx
  have x0' : ∀ c o, H c = some o → upd (upd H dx (.own y)) y (.ins CT dx []) c = some o := fun c o z => by
    rw [upd_ne (fun e => by rw [e, hx] at z; cases z), upd_ne (fun e => by rw [e, hdx] at z; cases z)]
    exact z
  have hx0' : upd (upd H dx (.own y)) y (.ins CT dx []) y = some (.ins CT dx []) := upd_same
  generalize upd (upd H dx (.own y)) y (.ins CT dx []) = H1 at x0' hx0'
  have kn1 : Kn (y :: b) H1 := fun c hc => by
    rcases List.mem_cons.mp hc with rfl | hc
    · rw [hx0']; intro z; cases z
    · exact Kn.up kn x0' c hc
  have htv1 : Dq K (y :: b) H1 tv (treeT ts) := dp_ex (hid_ex x0') _ _ (Dq.hide htv hx)
  refine ⟨y :: b, y, dx, tv, l, ts, rfl, kn1, List.mem_cons_self, hx0', htv1, hts, fun H2 tup sp e1 e2 e3 e4 e5 e6 e7 => ⟨rfl, gas ?_⟩⟩
  have hspH : H sp = none := by
    cases z : H sp with
    | none => rfl
    | some o => rw [x0' _ _ z] at e2; cases e2
  have x2 : Ex H H2 := fun c o z => e1 c o (fun m => by rw [List.mem_singleton.mp m, hx] at z; cases z) (x0' _ _ z)
  have kn2 : Kn (sp :: y :: b) H2 := fun c hc => by
    rcases List.mem_cons.mp hc with rfl | hc
    · rw [e5]; intro z; cases z
    · rcases List.mem_cons.mp hc with rfl | hc
      · rw [e4]; intro z; cases z
      · exact kn.up x2 c hc
  have te : Te K CT (sp :: y :: b) y dx tup sp hs MM (tOf ts) ⟨l, []⟩ H2 := ⟨kn2, List.mem_cons_of_mem _ List.mem_cons_self, List.mem_cons_self, ⟨e4, e5⟩, e6, e7, hT, ⟨l0, by show ((0 : Nat) : Int) + l ≤ 100; omega, fun i m => nomatch m⟩⟩
  refine ⟨.ref y, rfl, y, dx, _, rfl, e4, rfl, .str x, rfl, .ref u, rfl, sp :: y :: b, y, dx, tup, sp, hs, MM, tOf ts, ⟨l, []⟩, x, t, is, u, tp, rfl, te, et, el, wi, sqB_up x2 hsq, hne, fun ve H3 x3 t3 kn3 hve => gas ?_⟩
  rcases er : begun (tOf ts) n t is ⟨l, []⟩ with ⟨r, s1⟩
  have er' : (begun (tOf ts) n t is ⟨l, []⟩) = (r, s1) := er
  rw [er'] at q t3 hve
  have xx3 : Ex H H3 := fun c o z => x3 c o (fun m => by
    rcases List.mem_cons.mp m with rfl | m
    · rw [hx] at z; cases z
    · rw [List.mem_singleton.mp m, hspH] at z; cases z) (x2 _ _ z)
  refine ⟨.ref y, rfl, y, CT, dx, _, .ref sp, rfl, t3.ins, C.c, C.nS, rfl, sp, _, rfl, .inl (.inl t3.spk), fun lt o hlt ho => ?_⟩
  have x4 := Ex.new (o := HO.frz o (.tup (s1.said.map V.int))) hlt
  refine ⟨ve, rfl, by rw [hsl]; show 2 ≤ 16777216; decide, fun lt2 o2 hlt2 ho2 => ?_⟩
  have x5 := Ex.new (o := HO.frz o2 (.tup [.ref lt, ve])) hlt2
  have knb4 := (kn.up xx3).up x4
  exact q _ _ ((xx3.trans x4).trans x5) (dq_newT knb4 hlt2 ho2 (.cons (dq_newT (kn.up xx3) hlt ho (ints_dd _)) (.cons (Dq.up (dp_ex show_ex _ _ (dp_ex show_ex _ _ hve)) x4) .nil)))
end
end Wr

set_option Elab.async false
set_option linter.all false
set_option maxRecDepth 100000
set_option maxHeartbeats 4000000
namespace Wr
open PySem PySem.Spec PyProof.Rows L2 Evl
/-! ### the law's own op -/
abbrev s_lo : Stmt := topS 21
abbrev PLo : List Str := ["_law_op_here", "_law_one", "_law_other"]
abbrev NLo : List Str := ["_law_op_here", "_law_one", "_law_other", "_law_found"]
theorem sc_lo : FnScope NLo PLo (defScope s_lo) := ⟨rfl, rfl, rfl, by decide +kernel, rfl, by decide +kernel, by decide +kernel⟩
def resO : Int ⊕ Int → PyData
  | .inl f => .tuple [.str "fault", .int f]
  | .inr w => .tuple [.str "worth", .int w]
theorem neg_fd {n j : Int} (hj : 0 < j) (hn : 0 ≤ n) : 0 - n.fdiv j - (if n.fdiv j * j = n then 0 else 1) = (-n).fdiv j := by
  rw [Int.fdiv_eq_ediv_of_nonneg n (Int.le_of_lt hj), Int.fdiv_eq_ediv_of_nonneg (-n) (Int.le_of_lt hj)]
  have e1 := Int.mul_ediv_add_emod n j
  have e2 := Int.emod_nonneg n (Int.ne_of_gt hj)
  have e3 := Int.emod_lt_of_pos n hj
  have e4 : n / j * j = j * (n / j) := Int.mul_comm _ _
  rw [e4]
  generalize hm : n / j = m at *
  generalize hr : n % j = r at *
  by_cases r0 : r = 0
  · rw [if_pos (by omega)]
    have := ((Int.ediv_emod_unique (a := -n) (r := 0) (q := -m) hj).mpr ⟨by rw [Int.mul_neg]; omega, by omega, hj⟩).1
    omega
  · rw [if_neg (by omega)]
    have := ((Int.ediv_emod_unique (a := -n) (r := j - r) (q := -m - 1) hj).mpr ⟨by rw [Int.mul_sub, Int.mul_neg, Int.mul_one]; omega, by omega, by omega⟩).1
    omega
theorem over_abs {i j : Int} (hj : j ≠ 0) : (if (decide (i < 0) != decide (j < 0)) = true then 0 - (if i < 0 then -i else i).fdiv (if j < 0 then -j else j) - (if (if i < 0 then -i else i).fdiv (if j < 0 then -j else j) * (if j < 0 then -j else j) = (if i < 0 then -i else i) then 0 else 1) else (if i < 0 then -i else i).fdiv (if j < 0 then -j else j)) = i.fdiv j := by
  by_cases cj : j < 0
  · rw [if_pos cj, decide_eq_true cj, ← Int.neg_fdiv_neg i j]
    by_cases ci : i < 0
    · rw [if_pos ci, decide_eq_true ci, if_neg (by decide)]
    · rw [if_neg ci, decide_eq_false ci, if_pos (by decide)]
      exact neg_fd (by omega) (by omega)
  · rw [if_neg cj, decide_eq_false cj]
    by_cases ci : i < 0
    · rw [if_pos ci, decide_eq_true ci, if_pos (by decide), neg_fd (by omega) (by omega), Int.neg_neg]
    · rw [if_neg ci, decide_eq_false ci, if_neg (by decide)]
abbrev stO (o : Str) (i j x : Int) : L2.St := [some (.str o), some (.int i), some (.int j), some (.int x)]
theorem g_updI {K : PySem.W.Frag} {o : Str} {i j x y : Int} {c : Bool} {tt : TT} {te : TE} {ts : TS} {D : Ends} {H : Hp} (hc : EvT tt (stO o i j x) H c) (he : c = true → ∀ H', ED K [] te (stO o i j x) H' (.int y)) (k : ∀ z H', Ex H H' → (c = true → z = y) → (c = false → z = x) → ts D (stO o i j z) H') : tSeq (tIfS tt (tAsg te (gName 3)) tNext) ts D (stO o i j x) H := by
  refine hc H (Ex.refl H) _ fun H1 x1 => ?_
  cases c with
  | true =>
    rw [if_pos rfl]
    refine he rfl H1 H1 (Ex.refl H1) _ fun v H2 x2 hv => ?_
    rw [dq_int hv]
    exact k y H2 (x1.trans x2) (fun _ => rfl) (fun e => nomatch e)
  | false =>
    rw [if_neg Bool.false_ne_true]
    exact k x H1 x1 (fun e => nomatch e) fun _ => rfl
theorem g_overI {K : PySem.W.Frag} {o : Str} {i j x y : Int} {c c2 : Bool} {tt t2 : TT} {te te2 : TE} {ts : TS} {D : Ends} {H : Hp} (hc : EvT tt (stO o i j x) H c) (he : c = true → ∀ H', ED K [] te (stO o i j x) H' (.int y)) (h2 : c = true → ∀ H', EvT t2 (stO o i j y) H' c2) {y2 : Int} (he2 : c = true → c2 = true → ∀ H', ED K [] te2 (stO o i j y) H' (.int y2))
    (k : ∀ z H', Ex H H' → (c = true → z = if c2 = true then y2 else y) → (c = false → z = x) → ts D (stO o i j z) H') : tSeq (tIfS tt (tSeq (tAsg te (gName 3)) (tIfS t2 (tAsg te2 (gName 3)) tNext)) tNext) ts D (stO o i j x) H := by
  refine hc H (Ex.refl H) _ fun H1 x1 => ?_
  cases c with
  | true =>
    rw [if_pos rfl]
    refine he rfl H1 H1 (Ex.refl H1) _ fun v H2 x2 hv => ?_
    have ev := dq_int hv
    subst ev
    refine h2 rfl H2 H2 (Ex.refl H2) _ fun H3 x3 => ?_
    have x13 := (x1.trans x2).trans x3
    cases c2 with
    | true =>
      rw [if_pos rfl]
      refine he2 rfl rfl H3 H3 (Ex.refl H3) _ fun v H4 x4 hv => ?_
      have ev := dq_int hv
      subst ev
      exact k y2 H4 (x13.trans x4) (fun _ => rfl) (fun e => nomatch e)
    | false =>
      rw [if_neg Bool.false_ne_true]
      exact k y H3 x13 (fun _ => rfl) (fun e => nomatch e)
  | false =>
    rw [if_neg Bool.false_ne_true]
    exact k x H1 x1 (fun e => nomatch e) fun _ => rfl
theorem blEqJ (x y : Bool) : PyData.eqv (.bool x) (.bool y) = (x == y) := by
  cases x <;> cases y <;> simp [PyData.eqv]
theorem opW_case {P : Str → Prop} {o : Str} (h : o ∈ opW) (h1 : P "add") (h2 : P "less") (h3 : P "times") (h4 : P "over") (h5 : P "same") (h6 : P "below") : P o := by
  simp only [opW, List.mem_cons, List.not_mem_nil, or_false] at h
  rcases h with rfl | rfl | rfl | rfl | rfl | rfl <;> assumption
section
variable {P : Program} {w : World} {K : PySem.W.Frag} {mg : Str → Option Value} {base : Heap} {f : Addr} {fd : FuncData}
theorem ok_lo (D : Def K mg "_law_op" s_lo PLo f fd) (B : Blt mg) (B2 : Blt2 mg) : FnOk P w K mg base CX0 1 f fd PLo (spP K OpPre (opOf fun o i j => resO (opR o i j))) := by
  refine D.F.ok sc_lo (fun vs H Q E h => spP_len (fun _ ⟨o, i, j, e, _⟩ => by rw [e]; rfl) h) (fun cdv A outer s H vs Q E hr h => ?_)
  obtain ⟨b, ds, kn, hd, ⟨o, i, j, rfl, ho, hi, hj⟩, q⟩ := h
  cases hd with
  | @cons v1 _ _ _ h1 hd =>
  cases hd with
  | @cons v2 _ _ _ h2 hd =>
  cases hd with
  | @cons v3 _ _ _ h3 hd =>
  cases hd
  have ev1 := dq_str h1
  have ev2 := dq_int h2
  have ev3 := dq_int h3
  subst ev1 ev2 ev3
  have q : ∀ v H', Ex H H' → Dq K b H' v (resO (opR o i j)) → Q v H' := q
  refine ⟨_, pss_cons (ps_if (PW.pt (pw_and (pt_cmpR (op_eqD (hu64 hr)) (pv 0) pe_str (nomark _)) (pw_and1 (pt_cmpR (op_eqD (hu64 hr)) (pv 2) pe_int (nomark _))))) (pss_one (ps_ret (pe_tupF (pa_cons pe_str (pa_cons (pe_un un_neg pe_int) pa_nil))))) pss_nil)
    (pss_cons (ps_set (i := 3) sc_lo.nd rfl (Or.inl rfl) (pe_callTy call_intB rfl B.int bt_int (pa_cons (pe_cmpR op_lt (pv 1) (pv 2) (nomark _)) pa_nil)))
    (pss_cons (ps_if (pt_cmpR (op_eqD (hu64 hr)) (pv 0) pe_str (nomark _)) (pss_one (ps_set (i := 3) sc_lo.nd rfl (Or.inl rfl) (pe_callTy call_intB rfl B.int bt_int (pa_cons (pe_cmpR (op_eqD (hu64 hr)) (pv 1) (pv 2) (nomark _)) pa_nil)))) pss_nil)
    (pss_cons (ps_if (pt_cmpR (op_eqD (hu64 hr)) (pv 0) pe_str (nomark _)) (pss_one (ps_set (i := 3) sc_lo.nd rfl (Or.inl rfl) (pe_op op_add (pv 1) (pv 2)))) pss_nil)
    (pss_cons (ps_if (pt_cmpR (op_eqD (hu64 hr)) (pv 0) pe_str (nomark _)) (pss_one (ps_set (i := 3) sc_lo.nd rfl (Or.inl rfl) (pe_op op_sub (pv 1) (pv 2)))) pss_nil)
    (pss_cons (ps_if (pt_cmpR (op_eqD (hu64 hr)) (pv 0) pe_str (nomark _)) (pss_one (ps_set (i := 3) sc_lo.nd rfl (Or.inl rfl) (pe_op op_mul (pv 1) (pv 2)))) pss_nil)
    (pss_cons (ps_if (pt_cmpR (op_eqD (hu64 hr)) (pv 0) pe_str (nomark _)) (pss_cons (ps_set (i := 3) sc_lo.nd rfl (Or.inl rfl) (pe_op op_fdivS (pe_callB call_absB rfl B2.abs bb_abs (pa_cons (pv 1) pa_nil)) (pe_callB call_absB rfl B2.abs bb_abs (pa_cons (pv 2) pa_nil))))
    (pss_one (ps_if (pt_cmpR (op_neD (hu64 hr)) (pe_cmpR op_lt (pv 1) pe_int (nomark _)) (pe_cmpR op_lt (pv 2) pe_int (nomark _)) (nomark _)) (pss_one (ps_set (i := 3) sc_lo.nd rfl (Or.inl rfl) (pe_op op_sub (pe_op op_sub pe_int (pv 3)) (pe_callTy call_intB rfl B.int bt_int (pa_cons (pe_cmpR (op_neD (hu64 hr)) (pe_op op_mul (pv 3) (pe_callB call_absB rfl B2.abs bb_abs (pa_cons (pv 2) pa_nil))) (pe_callB call_absB rfl B2.abs bb_abs (pa_cons (pv 1) pa_nil)) (nomark _)) pa_nil))))) pss_nil))) pss_nil)
    (pss_cons (ps_if (pt_cmpR op_gt (pe_callB call_absB rfl B2.abs bb_abs (pa_cons (pv 3) pa_nil)) (pe_op op_pow pe_int pe_int) (nomark _)) (pss_one (ps_ret (pe_tupF (pa_cons pe_str (pa_cons (pe_un un_neg pe_int) pa_nil))))) pss_nil)
    (pss_one (ps_ret (pe_tupF (pa_cons pe_str (pa_cons (pv 3) pa_nil)))))))))))), ?_⟩
  have hsl : sizeLine = 16777216 := sizeLine_eq
  have so := opW_ok ho
  have vo : ∀ {σ' : L2.St} {H' : Hp} {b' : List Addr}, σ'[0]? = some (some (.str o)) → ED K b' (tVar 0) σ' H' (.str o) := fun {_ _ _} e => ed_var e (.str o)
  have vi : ∀ {σ' : L2.St} {H' : Hp} {b' : List Addr}, σ'[1]? = some (some (.int i)) → ED K b' (tVar 1) σ' H' (.int i) := fun {_ _ _} e => ed_var e (.int i)
  have vj : ∀ {σ' : L2.St} {H' : Hp} {b' : List Addr}, σ'[2]? = some (some (.int j)) → ED K b' (tVar 2) σ' H' (.int j) := fun {_ _ _} e => ed_var e (.int j)
  have vx : ∀ {x : Int} {H' : Hp} {b' : List Addr}, ED K b' (tVar 3) (stO o i j x) H' (.int x) := fun {_ _ _} => ed_var rfl (.int _)
  have te : ∀ (x : Str) (σ' : L2.St) (H' : Hp), PyData.strOk x = true → σ'[0]? = some (some (.str o)) → EvT (tTest (tOp (rEqD K) (tVar 0) (tC (.str x)))) σ' H' (decide (o = x)) := fun x σ' H' hx e => by
    have := et_t (ed_eq (K := K) (b := []) (H := H') (vo e) (ed_str (x := x)) (sh_str so) (sh_str hx))
    rw [strEq] at this
    exact this
  have t2 : EvT (tTest (tOp (rEqD K) (tVar 2) (tC (.int 0)))) (start NLo [.str o, .int i, .int j]) H (j == 0) := by
    have := et_t (ed_eq (K := K) (b := []) (H := H) (vj (σ' := start NLo [.str o, .int i, .int j]) rfl) (ed_int (i := 0)) (sh_int _) (sh_int _))
    rw [eqv_int] at this
    exact this
  have t12 := et_and (te "over" (start NLo [.str o, .int i, .int j]) H (by decide +kernel) rfl) fun _ => t2
  refine g_ifE (K := K) t12 fun H1 x1 => ?_
  by_cases hz : o = "over" ∧ j = 0
  · rw [decide_eq_true hz.1, hz.2]
    show ite (true = true) _ _
    rw [if_pos rfl]
    have eR : opR o i j = .inl (-1) := if_pos hz
    rw [eR] at q
    exact ed_tup (K := K) (b := b) (ds := [.str "fault", .int (-1)]) (kn.up x1) (ea_cons (ed_str (x := "fault")) (ea_cons (ed_neg (ed_int (i := 1))) ea_nil)) (by rw [hsl]; show 2 ≤ 16777216; decide) H1 (Ex.refl H1) _ fun v H2 x2 hv => q v H2 (x1.trans x2) hv
  have hz0 : (decide (o = "over") && (j == 0)) = false := by
    cases h : (decide (o = "over") && (j == 0)) with
    | false => rfl
    | true =>
      rw [Bool.and_eq_true] at h
      exact absurd ⟨of_decide_eq_true h.1, by simpa using h.2⟩ hz
  rw [hz0, if_neg Bool.false_ne_true]
  refine gnext ?_
  have wi := hi; have wj := hj
  unfold Wth at wi wj
  have tI : ∀ {σ' : L2.St} {H' : Hp} {a c : TE} {x y : Int}, ED K [] a σ' H' (.int x) → ED K [] c σ' H' (.int y) → ED K [] (tCB rInt1 (tCons (tOp (rNeD K) a c) tNil)) σ' H' (.int (if x = y then 0 else 1)) := fun {σ' H' a c x y} ha hc => (ed_intB (ed_ne ha hc (sh_int _) (sh_int _))).to (by
    rw [eqv_int]
    by_cases e : x = y
    · rw [e, beq_self_eq_true, if_pos rfl]; rfl
    · rw [beq_eq_false_iff_ne.mpr e, if_neg e]; rfl)
  refine g_set (K := K) (b := []) (ed_intB (ed_lt (vi rfl) (vj rfl))) fun v3 H2 x2 h3 => ?_
  have e3 := dq_int h3
  subst e3
  refine g_updI (K := K) (te "same" _ _ (by decide +kernel) rfl) (fun _ H' => ed_intB (ed_eq (vi rfl) (vj rfl) (sh_int _) (sh_int _))) fun z1 H3 x3 a1 b1 => ?_
  refine g_updI (K := K) (te "add" _ _ (by decide +kernel) rfl) (fun _ H' => ed_add (vi rfl) (vj rfl)) fun z2 H4 x4 a2 b2 => ?_
  refine g_updI (K := K) (te "less" _ _ (by decide +kernel) rfl) (fun _ H' => ed_sub (vi rfl) (vj rfl)) fun z3 H5 x5 a3 b3 => ?_
  refine g_updI (K := K) (te "times" _ _ (by decide +kernel) rfl) (fun _ H' => ed_mul (vi rfl) (vj rfl) (.inl ⟨by omega, by omega⟩)) fun z4 H6 x6 a4 b4 => ?_
  have j0 : decide (o = "over") = true → j ≠ 0 := fun c e => hz ⟨of_decide_eq_true c, e⟩
  have aq : j ≠ 0 → 0 ≤ (if i < 0 then -i else i).fdiv (if j < 0 then -j else j) ∧ (if i < 0 then -i else i).fdiv (if j < 0 then -j else j) ≤ 1000000000000 := fun h => by
    rw [Int.fdiv_eq_ediv_of_nonneg _ (by split <;> omega)]
    have h1 := Int.ediv_nonneg (a := if i < 0 then -i else i) (b := if j < 0 then -j else j) (by split <;> omega) (by split <;> omega)
    have h2 := Int.ediv_le_self (a := if i < 0 then -i else i) (if j < 0 then -j else j) (by split <;> omega)
    refine ⟨h1, Int.le_trans h2 (by split <;> omega)⟩
  refine g_overI (K := K) (te "over" _ _ (by decide +kernel) rfl) (fun c H' => ed_I (C := CDivS) (g := fun i j => .int (i.fdiv j)) (z := .int ((if i < 0 then -i else i).fdiv (if j < 0 then -j else j))) (ed_abs (vi rfl)) (ed_abs (vj rfl)) ⟨by have := j0 c; split <;> omega, by split <;> omega, by split <;> omega⟩ fun _ => .int _)
    (fun _ H' => et_t (ed_ne (K := K) (b := []) (ed_lt (vi rfl) (ed_int (i := 0))) (ed_lt (vj rfl) (ed_int (i := 0))) (sh_bool _) (sh_bool _)))
    (fun c _ H' => ed_sub (ed_sub (ed_int (i := 0)) vx) (tI (ed_mul vx (ed_abs (vj rfl)) (.inl ⟨by have := aq (j0 c); omega, by have := aq (j0 c); omega⟩)) (ed_abs (vi rfl)))) fun z5 H7 x7 a5 b5 => ?_
  have x17 : Ex H H7 := (((((x1.trans x2).trans x3).trans x4).trans x5).trans x6).trans x7
  have ez : z5 = opN o i j := by
    rw [blEqJ] at a5
    have eb : (!(decide (i < 0) == decide (j < 0))) = (decide (i < 0) != decide (j < 0)) := rfl
    rw [eb] at a5
    by_cases c4 : o = "over"
    · rw [a5 (decide_eq_true c4), over_abs (j0 (decide_eq_true c4)), c4]
      rfl
    · have b5 := b5 (decide_eq_false c4)
      subst b5
      rw [eqv_int] at a1
      simp only [opW, List.mem_cons, List.not_mem_nil, or_false] at ho
      unfold opN
      rcases ho with rfl | rfl | rfl | rfl | rfl | rfl
      · rw [b4 (by decide +kernel), b3 (by decide +kernel), a2 (by decide +kernel), if_pos rfl]
      · rw [b4 (by decide +kernel), a3 (by decide +kernel), if_neg (show ¬ ("less" : Str) = "add" by decide +kernel), if_pos rfl]
      · rw [a4 (by decide +kernel), if_neg (show ¬ ("times" : Str) = "add" by decide +kernel), if_neg (show ¬ ("times" : Str) = "less" by decide +kernel), if_pos rfl]
      · exact absurd rfl c4
      · rw [b4 (by decide +kernel), b3 (by decide +kernel), b2 (by decide +kernel), a1 (by decide +kernel), if_neg (show ¬ ("same" : Str) = "add" by decide +kernel), if_neg (show ¬ ("same" : Str) = "less" by decide +kernel), if_neg (show ¬ ("same" : Str) = "times" by decide +kernel), if_neg (show ¬ ("same" : Str) = "over" by decide +kernel), if_pos rfl]
        by_cases e : i = j
        · rw [e, beq_self_eq_true, if_pos rfl, if_pos rfl]
        · rw [beq_eq_false_iff_ne.mpr e, if_neg Bool.false_ne_true, if_neg e]
      · rw [b4 (by decide +kernel), b3 (by decide +kernel), b2 (by decide +kernel), b1 (by decide +kernel), if_neg (show ¬ ("below" : Str) = "add" by decide +kernel), if_neg (show ¬ ("below" : Str) = "less" by decide +kernel), if_neg (show ¬ ("below" : Str) = "times" by decide +kernel), if_neg (show ¬ ("below" : Str) = "over" by decide +kernel), if_neg (show ¬ ("below" : Str) = "same" by decide +kernel)]
        by_cases e : i < j
        · rw [decide_eq_true e, if_pos rfl, if_pos e]
        · rw [decide_eq_false e, if_neg Bool.false_ne_true, if_neg e]
  subst ez
  have pw : ∀ {σ' : L2.St} {H' : Hp}, ED K [] (tOp (rI CPow fun i j => .int (i ^ j.toNat)) (tC (.int 10)) (tC (.int 12))) σ' H' (.int 1000000000000) := fun {_ _} => ed_I ed_int ed_int ⟨by decide, by decide, by decide⟩ fun _ => .int _
  refine g_ifE (K := K) (et_t (ed_gt (K := K) (b := []) (ed_abs vx) pw)) fun H8 x8 => ?_
  have x18 := x17.trans x8
  have oR : opR o i j = if -1000000000000 ≤ opN o i j ∧ opN o i j ≤ 1000000000000 then .inr (opN o i j) else .inl (-2) := if_neg hz
  rw [oR] at q
  by_cases hb : -1000000000000 ≤ opN o i j ∧ opN o i j ≤ 1000000000000
  · rw [if_pos hb] at q
    rw [decide_eq_false (by split <;> omega), if_neg Bool.false_ne_true]
    refine gnext ?_
    exact ed_tup (K := K) (b := b) (ds := [.str "worth", .int (opN o i j)]) (kn.up x18) (ea_cons (ed_str (x := "worth")) (ea_cons vx ea_nil)) (by rw [hsl]; show 2 ≤ 16777216; decide) H8 (Ex.refl H8) _ fun v H9 x9 hv => q v H9 (x18.trans x9) hv
  · rw [if_neg hb] at q
    rw [decide_eq_true (by split <;> omega), if_pos rfl]
    exact ed_tup (K := K) (b := b) (ds := [.str "fault", .int (-2)]) (kn.up x18) (ea_cons (ed_str (x := "fault")) (ea_cons (ed_neg (ed_int (i := 2))) ea_nil)) (by rw [hsl]; show 2 ≤ 16777216; decide) H8 (Ex.refl H8) _ fun v H9 x9 hv => q v H9 (x18.trans x9) hv
end
end Wr

set_option Elab.async false
set_option linter.all false
set_option maxRecDepth 100000
set_option maxHeartbeats 4000000
namespace Wr
open PySem PySem.Spec PyProof.Rows L2 Evl
/-! ### the law's own run of a tree: a dict -/
abbrev rD (tup sp : Addr) (l deep : Int) : List (Key × V) := [(Sum.inr "tree", .ref tup), (Sum.inr "left", .int l), (Sum.inr "said", .ref sp), (Sum.inr "deep", .int deep)]
theorem rD_tree {tup sp : Addr} {l deep : Int} : valV (rD tup sp l deep) (Sum.inr "tree") = some (.ref tup) := rfl
theorem rD_left {tup sp : Addr} {l deep : Int} : valV (rD tup sp l deep) (Sum.inr "left") = some (.int l) := rfl
theorem rD_said {tup sp : Addr} {l deep : Int} : valV (rD tup sp l deep) (Sum.inr "said") = some (.ref sp) := rfl
theorem rD_deep {tup sp : Addr} {l deep : Int} : valV (rD tup sp l deep) (Sum.inr "deep") = some (.int deep) := rfl
theorem rD_pl {tup sp : Addr} {l deep x : Int} : putK (rD tup sp l deep) (Sum.inr "left") (.int x) = rD tup sp x deep := rfl
theorem rD_pd {tup sp : Addr} {l deep x : Int} : putK (rD tup sp l deep) (Sum.inr "deep") (.int x) = rD tup sp l x := rfl
structure Lr (p tup sp : Addr) (s : Stt) (deep : Nat) (H : Hp) : Prop where
  ins : H p = some (.dK (rD tup sp s.l deep))
  spk : H sp = some (.lst (s.said.map V.int))
structure Lw (K : PySem.W.Frag) (b : List Addr) (p tup sp : Addr) (hs : Hds) (M : Nat) (T : Tt) (s : Stt) (deep : Nat) (H : Hp) : Prop where
  kn : Kn b H
  pb : p ∈ b
  sb : sp ∈ b
  tl : Lr p tup sp s deep H
  tb : tup ∉ b
  tr : ∃ kvs, H tup = some (.dK kvs) ∧ ∀ x t, T x = some t → ∃ a, valV kvs (Sum.inr x) = some (.ref a) ∧ Dq K b H (.ref a) (.tuple [.tuple (t.1.map PyData.str), .tuple t.2])
  hT : TtOk hs M T
  ok : StOk s
section
variable {K : PySem.W.Frag} {p tup sp kd : Addr} {b S : List Addr} {hs : Hds} {M : Nat} {T : Tt} {s s' : Stt} {H H' : Hp} {ρ : Env'} {l l' : Int} {deep deep' : Nat}
theorem Lr.up (h : Lr p tup sp s deep H) (x : Ex H H') : Lr p tup sp s deep H' := ⟨x _ _ h.ins, x _ _ h.spk⟩
theorem Lr.ne (h : Lr p tup sp s deep H) : p ≠ sp := fun e => by
  have := h.ins
  rw [e, h.spk] at this
  cases this
theorem Lr.nn (h : Lr p tup sp s deep H) : ∀ c ∈ [p, sp], H c ≠ none := fun c hc => by
  rcases List.mem_cons.mp hc with rfl | hc
  · rw [h.ins]; intro z; cases z
  · rw [List.mem_singleton.mp hc, h.spk]; intro z; cases z
theorem KnD.notL (h : KnD kd ρ l H) (t : Lr p tup sp s deep H) : kd ∉ [p, sp] := fun hc => by
  obtain ⟨kvs, h1, _, h3⟩ := h
  rcases List.mem_cons.mp hc with rfl | hc
  · rw [t.ins] at h1
    cases h1
    have := h3 "tree"
    rw [rD_tree] at this
    cases e : ρ "tree" <;> rw [e] at this <;> cases this
  · rw [List.mem_singleton.mp hc, t.spk] at h1; cases h1
theorem KnD.atL (h : KnD kd ρ l H) (t : Lr p tup sp s deep H) (x : ExS [p, sp] H H') : KnD kd ρ l H' := by
  have n := h.notL t
  obtain ⟨kvs, h1, h2⟩ := h
  exact ⟨kvs, x _ _ n h1, h2⟩
theorem nn3L (t : Lr p tup sp s deep H) (k : KnD kd ρ l H) : ∀ c ∈ [p, sp, kd], H c ≠ none := fun c hc => by
  rcases List.mem_cons.mp hc with rfl | hc
  · exact t.nn _ List.mem_cons_self
  · rcases List.mem_cons.mp hc with rfl | hc
    · exact t.nn _ (List.mem_cons_of_mem _ List.mem_cons_self)
    · rw [List.mem_singleton.mp hc]; exact k.nn
theorem Lw.next (h : Lw K b p tup sp hs M T s deep H) (hS : ∀ c ∈ S, c ∈ b) (hn : ∀ c ∈ S, H' c ≠ none) (x : ExS S H H') (t : Lr p tup sp s' deep' H') (ok : StOk s') : Lw K b p tup sp hs M T s' deep' H' := by
  refine ⟨fun c hc z => ?_, h.pb, h.sb, t, h.tb, ?_, h.hT, ok⟩
  · by_cases m : c ∈ S
    · exact hn c m z
    · cases q : H c with
      | none => exact h.kn c hc q
      | some o => rw [x c o m q] at z; cases z
  · obtain ⟨kvs, k1, k2⟩ := h.tr
    refine ⟨kvs, x _ _ (fun m => h.tb (hS _ m)) k1, fun y t ht => ?_⟩
    obtain ⟨a, q1, q2⟩ := k2 y t ht
    exact ⟨a, q1, exS_dq hS x q2⟩
theorem Lw.s2 (h : Lw K b p tup sp hs M T s deep H) : ∀ c ∈ [p, sp], c ∈ b := fun c hc => by
  rcases List.mem_cons.mp hc with rfl | hc
  · exact h.pb
  · rw [List.mem_singleton.mp hc]; exact h.sb
theorem Lw.s3 (h : Lw K b p tup sp hs M T s deep H) (k : kd ∈ b) : ∀ c ∈ [p, sp, kd], c ∈ b := fun c hc => by
  rcases List.mem_cons.mp hc with rfl | hc
  · exact h.pb
  · rcases List.mem_cons.mp hc with rfl | hc
    · exact h.sb
    · rw [List.mem_singleton.mp hc]; exact k
theorem Lw.up (h : Lw K b p tup sp hs M T s deep H) (x : Ex H H') : Lw K b p tup sp hs M T s deep H' := h.next (S := []) (fun _ m => nomatch m) (fun _ m => nomatch m) (exS x) (h.tl.up x) h.ok
theorem Lw.next2 (h : Lw K b p tup sp hs M T s deep H) (x : ExS [p, sp] H H') (t : Lr p tup sp s' deep' H') (ok : StOk s') : Lw K b p tup sp hs M T s' deep' H' := h.next h.s2 t.nn x t ok
theorem Lw.next3 (h : Lw K b p tup sp hs M T s deep H) (kb : kd ∈ b) (x : ExS [p, sp, kd] H H') (t : Lr p tup sp s' deep' H') (k : KnD kd ρ l H') (ok : StOk s') : Lw K b p tup sp hs M T s' deep' H' := h.next (h.s3 kb) (nn3L t k) x t ok
/-- a new cell that is held back too -/
theorem Lw.new {q : Addr} (h : Lw K b p tup sp hs M T s deep H) (n : H q = none) (x : Ex H H') (e : H' q ≠ none) : Lw K (q :: b) p tup sp hs M T s deep H' := by
  obtain ⟨kvs, k1, k2⟩ := h.tr
  refine ⟨fun c hc => ?_, List.mem_cons_of_mem _ h.pb, List.mem_cons_of_mem _ h.sb, h.tl.up x, fun m => ?_, ⟨kvs, x _ _ k1, fun y t ht => ?_⟩, h.hT, h.ok⟩
  · rcases List.mem_cons.mp hc with rfl | hc
    · exact e
    · exact h.kn.up x c hc
  · rcases List.mem_cons.mp m with m | m
    · rw [m, n] at k1; cases k1
    · exact h.tb m
  · obtain ⟨a, q1, q2⟩ := k2 y t ht
    exact ⟨a, q1, dp_ex (hid_ex x) _ _ (Dq.hide q2 n)⟩
end
/-! ### how values and sayings end, as the law has it -/
def lefV (r : RV) (s : Stt) : Stt := match r with
  | .l => ⟨-1, s.said⟩
  | _ => s
def lefG (r : RG) (s : Stt) : Stt := match r with
  | .l => ⟨-1, s.said⟩
  | _ => s
def resV : RV → PyData
  | .w i => .tuple [.str "worth", .int i]
  | .f i => .tuple [.str "fault", .int i]
  | .l => .tuple [.str "long"]
  | .s => .none
def resG : RG → PyData
  | .n => .none
  | .b i => .tuple [.str "back", .int i]
  | .f i => .tuple [.str "fault", .int i]
  | .l => .tuple [.str "long"]
  | .s => .none
def LVEnd (K : PySem.W.Frag) (b : List Addr) (p tup sp : Addr) (deep : Nat) (H : Hp) (r : RV × Stt) (Q : VK) : Prop := r.1 ≠ .s ∧ ∀ v H', ExS [p, sp] H H' → Lr p tup sp (lefV r.1 r.2) deep H' → Dq K b H' v (resV r.1) → Q v H'
/-- the same of a tuple that is begun -/
def LEEnd (K : PySem.W.Frag) (b : List Addr) (p tup sp : Addr) (deep : Nat) (H : Hp) (r : RV × Stt) (Q : VK) : Prop := r.1 ≠ .s ∧ ∀ v H', ExS [p, sp] H H' → Lr p tup sp (lefV r.1 r.2) deep H' → Dq K b H' v (endD r.1) → Q v H'
def LGEnd (K : PySem.W.Frag) (b : List Addr) (p tup sp kd : Addr) (deep : Nat) (c : Int) (H : Hp) (r : RG × Env' × Stt) (Q : VK) : Prop := r.1 ≠ .s ∧ ∀ v H', ExS [p, sp, kd] H H' → Lr p tup sp (lefG r.1 r.2.2) deep H' → KnD kd r.2.1 (c - r.2.2.l) H' → Dq K b H' v (resG r.1) → Q v H'
structure LVIn (K : PySem.W.Frag) (b : List Addr) (p tup sp kd : Addr) (hs : Hds) (M : Nat) (T : Tt) (s : Stt) (deep : Nat) (ρ : Env') (u : V) (d : PyData) (m : Nat) (H : Hp) : Prop where
  te : Lw K b p tup sp hs M T s deep H
  kb : kd ∈ b
  kd : ∃ n, KnD kd ρ n H
  ρ : ρ.ok
  hu : Dq K b H u d
  hd : VaP hs m d
structure LGIn (K : PySem.W.Frag) (b : List Addr) (p tup sp kd : Addr) (hs : Hds) (M : Nat) (T : Tt) (s : Stt) (deep : Nat) (ρ : Env') (c : Int) (u : V) (d : PyData) (H : Hp) : Prop where
  te : Lw K b p tup sp hs M T s deep H
  kb : kd ∈ b
  kd : KnD kd ρ (c - s.l) H
  c : c ≤ 1000
  ρ : ρ.ok
  hu : Dq K b H u d
def spLW (K : PySem.W.Frag) (k n : Nat) : Sp := fun vs H Q _ => ∃ b p tup sp kd hs M T s ρ u d, ∃ (deep m : Nat), vs = [.ref p, u, .ref kd] ∧ (deep ≤ 12 ∧ 8 + (12 - deep) * 16 + m ≤ k) ∧ LVIn K b p tup sp kd hs M T s deep ρ u d m H ∧ LVEnd K b p tup sp deep H ((sem T n).v deep ρ s d) Q
def spLG (K : PySem.W.Frag) (k n : Nat) : Sp := fun vs H Q _ => ∃ c b p tup sp kd hs M T s ρ u ds, ∃ (deep w m : Nat), vs = [.ref p, u, .ref kd] ∧ (deep ≤ 12 ∧ 8 + (12 - deep) * 16 + w + 3 * m ≤ k) ∧ LGIn K b p tup sp kd hs M T s deep ρ c u (.tuple ds) H ∧ (∀ d ∈ ds, SaP hs w m d) ∧ LGEnd K b p tup sp kd deep c H ((sem T n).g deep ρ s ds) Q
/-- one saying, counted before -/
def spL1 (K : PySem.W.Frag) (k n : Nat) : Sp := fun vs H Q _ => ∃ c b p tup sp kd hs M T s ρ u d, ∃ (deep w m : Nat), vs = [.ref p, u, .ref kd] ∧ (deep ≤ 12 ∧ 8 + (12 - deep) * 16 + w + 3 * m ≤ k + 1) ∧ LGIn K b p tup sp kd hs M T s deep ρ (c - 1) u d H ∧ SaP hs w m d ∧ c ≤ 1000 ∧ LGEnd K b p tup sp kd deep c H (sStep T (sem T n) deep ρ s d) Q
def spIl : Sp := fun vs H Q _ => ∃ p tup sp s deep, vs = [.ref p] ∧ Lr p tup sp s deep H ∧ Q (.bl (decide (0 ≤ s.l - 1))) (upd H p (.dK (rD tup sp (s.l - 1) deep)))
/-- a tuple that is begun with numbers -/
def spLE (K : PySem.W.Frag) (k n : Nat) : Sp := fun vs H Q _ => ∃ b p tup sp hs M T s x t is u, ∃ (tp : Bool) (deep : Nat), vs = [.ref p, .str x, .ref u] ∧ (deep ≤ 12 ∧ 8 + (12 - deep) * 16 ≤ k) ∧ Lw K b p tup sp hs M T s deep H ∧ T x = some t ∧ t.1.length = is.length ∧ (∀ i ∈ is, Wth i) ∧ SqB tp K H u (is.map V.int) ∧ LEEnd K b p tup sp deep H (callF T (sem T n) deep x is s) Q
abbrev s_lr : Stmt := topS 22
abbrev s_le : Stmt := topS 23
abbrev s_il : Stmt := topS 24
abbrev s_lg : Stmt := topS 25
abbrev s_l1 : Stmt := topS 26
abbrev PLr : List Str := ["_law_run", "_law_value", "_law_names"]
abbrev NLr : List Str := ["_law_run", "_law_value", "_law_names", "_law_some", "_law_one", "_law_found"]
theorem sc_lr : FnScope NLr PLr (defScope s_lr) := ⟨rfl, rfl, rfl, by decide +kernel, rfl, by decide +kernel, by decide +kernel⟩
abbrev PLe : List Str := ["_law_run", "_law_name", "_law_numbers"]
abbrev NLe : List Str := ["_law_run", "_law_name", "_law_numbers", "_law_own", "_law_sayings", "_law_names", "_law_k", "_law_found"]
theorem sc_le : FnScope NLe PLe (defScope s_le) := ⟨rfl, rfl, rfl, by decide +kernel, rfl, by decide +kernel, by decide +kernel⟩
theorem sc_il : FnScope ["_law_run"] ["_law_run"] (defScope s_il) := ⟨rfl, rfl, rfl, by decide +kernel, rfl, by decide +kernel, by decide +kernel⟩
abbrev PLg : List Str := ["_law_run", "_law_sayings", "_law_names"]
abbrev NLg : List Str := ["_law_run", "_law_sayings", "_law_names", "_law_saying", "_law_found"]
theorem sc_lg : FnScope NLg PLg (defScope s_lg) := ⟨rfl, rfl, rfl, by decide +kernel, rfl, by decide +kernel, by decide +kernel⟩
abbrev PL1 : List Str := ["_law_run", "_law_saying", "_law_names"]
abbrev NL1 : List Str := ["_law_run", "_law_saying", "_law_names", "_law_word", "_law_found", "_law_broken"]
theorem sc_l1 : FnScope NL1 PL1 (defScope s_l1) := ⟨rfl, rfl, rfl, by decide +kernel, rfl, by decide +kernel, by decide +kernel⟩
section
variable {P : Program} {w : World} {K : PySem.W.Frag} {mg : Str → Option Value} {base : Heap} {f : Addr} {fd : FuncData}
theorem ok_il (D : Def K mg "_law_is_let" s_il ["_law_run"] f fd) : FnOk P w K mg base CX0 1 f fd ["_law_run"] spIl := by
  refine D.F.ok sc_il (fun vs H Q E ⟨p, tup, sp, s, deep, e, _⟩ => by rw [e]; rfl) (fun cdv A outer s H vs Q E hr h => ?_)
  obtain ⟨p, tup, sp, s, deep, rfl, tl, q⟩ := h
  refine ⟨_, pss_cons (ps_dput (hu1 hr) (pv 0) pe_str (pe_op op_sub (pe_dget (hu1 hr) (pv 0) pe_str (fun _ _ => rfl)) pe_int) rfl)
    (pss_one (ps_ret (pe_cmpR op_ge (pe_dget (hu1 hr) (pv 0) pe_str (fun _ _ => rfl)) pe_int (nomark _)))), ?_⟩
  have hsl : sizeLine = 16777216 := sizeLine_eq
  have g1 : DGet H p (.str "left") (some (.int s.l)) := by
    have := DGet.k (k := Sum.inr "left") tl.ins
    rw [rD_left] at this
    exact this
  refine ⟨.ref p, rfl, p, _, rfl, g1, s.l, 1, rfl, rfl, .ref p, rfl, p, _, rfl, .inl ⟨_, Sum.inr "left", tl.ins, rfl, by show 4 < sizeLine; rw [hsl]; decide, rfl⟩, ?_⟩
  rw [rD_pl]
  have g2 : DGet (upd H p (.dK (rD tup sp (s.l - 1) deep))) p (.str "left") (some (.int (s.l - 1))) := by
    have := DGet.k (k := Sum.inr "left") (H := upd H p (.dK (rD tup sp (s.l - 1) deep))) (a := p) upd_same
    rw [rD_left] at this
    exact this
  exact ⟨.ref p, rfl, p, _, rfl, g2, s.l - 1, 0, rfl, rfl, q⟩
end
end Wr

set_option Elab.async false
set_option linter.all false
set_option maxRecDepth 100000
set_option maxHeartbeats 4000000
namespace Wr
open PySem PySem.Spec PyProof.Rows L2 Evl
theorem kn_exS {b S : List Addr} {H H' : Hp} (kn : Kn b H) (x : ExS S H H') (n : ∀ c ∈ S, H' c ≠ none) : Kn b H' := fun c hc z => by
  by_cases m : c ∈ S
  · exact n c m z
  · cases q : H c with
    | none => exact kn c hc q
    | some o => rw [x c o m q] at z; cases z
def opF (o : Str) (r : (RV ⊕ List Int) × Stt) : RV × Stt := match r with
  | (.inl r, s1) => (r, s1)
  | (.inr [i, j], s1) => match opR o i j with
    | .inl f => (.f f, s1)
    | .inr w => (.w w, s1)
  | (.inr _, s1) => (.s, s1)
theorem v_op' {T : Tt} {F : Sem} {deep : Nat} {ρ : Env'} {s : Stt} {o : Str} {a b : PyData} (h : o ∈ opW) : vStep T F deep ρ s (.tuple [.str o, a, b]) = opF o (valsF (fun s d => F.v deep ρ s d) s [a, b]) := by
  rw [v_op h]
  rcases e : F.v deep ρ s a with ⟨r, s1⟩
  cases r with
  | w i =>
    rcases e2 : F.v deep ρ s1 b with ⟨r2, s2⟩
    cases r2 with
    | w j =>
      have : valsF (fun s d => F.v deep ρ s d) s [a, b] = (.inr [i, j], s2) := by simp only [valsF, e, e2]
      rw [this]
      simp only [e2, opF] <;> (cases opR o i j <;> rfl)
    | f j => simp only [valsF, e, e2, opF]
    | l => simp only [valsF, e, e2, opF]
    | s => simp only [valsF, e, e2, opF]
  | f i => simp only [valsF, e, opF]
  | l => simp only [valsF, e, opF]
  | s => simp only [valsF, e, opF]
/-- what a value is that has values within -/
structure Pack (hs : Hds) (T : Tt) (F : Sem) (deep : Nat) (ρ : Env') (s : Stt) (j0 : Nat) (d : PyData) (o : Str) (d1 d2 : PyData) (ds : List PyData) (G : (RV ⊕ List Int) × Stt → RV × Stt) : Prop where
  e : d = .tuple [.str o, d1, d2]
  so : PyData.strOk o = true
  no : o ≠ "name"
  it : (if o = "call" then d2 else .tuple [d1, d2]) = .tuple ds
  va : ∀ e ∈ ds, VaP hs j0 e
  v : vStep T F deep ρ s d = G (valsF (fun s d => F.v deep ρ s d) s ds)
  g : ∀ r s, G (.inl r, s) = (r, s)
  c : (o = "call" ∧ ∃ x, d1 = .str x ∧ (x, ds.length) ∈ hs ∧ G = goF T F deep x) ∨ (o ∈ opW ∧ ds.length = 2 ∧ G = opF o)
theorem vap_view {hs : Hds} {T : Tt} {F : Sem} {deep : Nat} {ρ : Env'} {s : Stt} {m : Nat} {d : PyData} (h : VaP hs m d) : (∃ i, d = .int i ∧ Wth i) ∨ (∃ y, d = .tuple [.str "name", .str y] ∧ PyData.strOk y = true) ∨ ∃ j0 o d1 d2 ds G, m = j0 + 1 ∧ Pack hs T F deep ρ s j0 d o d1 d2 ds G := by
  cases h with
  | num hi => exact .inl ⟨_, rfl, hi⟩
  | name hy => exact .inr (.inl ⟨_, rfl, hy⟩)
  | @op j0 o va vb ho hva hvb => exact .inr (.inr ⟨j0, o, va, vb, [va, vb], opF o, rfl, rfl, opW_ok ho, (opW_not ho).1, if_neg (opW_not ho).2, fun e he => by
      rcases List.mem_cons.mp he with rfl | he
      · exact hva
      · rw [List.mem_singleton.mp he]; exact hvb, v_op' ho, fun _ _ => rfl, .inr ⟨ho, rfl, rfl⟩⟩)
  | @call j0 x ds hx ho hds => exact .inr (.inr ⟨j0, "call", .str x, .tuple ds, ds, goF T F deep x, rfl, rfl, by decide +kernel, by decide +kernel, if_pos rfl, hds, v_call', fun _ _ => rfl, .inl ⟨rfl, x, rfl, hx, rfl⟩⟩)
section
variable {K : PySem.W.Frag} {b : List Addr} {σ : L2.St} {H : Hp} {v : V}
theorem tfd {i : Nat} {o x : Str} {r : List PyData} (e1 : σ[i]? = some (some v)) (hv : Dq K b H v (.tuple (.str o :: r))) (so : PyData.strOk o = true) (sx : PyData.strOk x = true) : EvT (tTest (tOp (rNeD K) (tOp (rIxT K) (tVar i) (tC (.int 0))) (tC (.str x)))) σ H (!decide (o = x)) := by
  have := et_t (ed_ne (K := K) (b := b) (ed_ixT (ed_var (i := i) e1 hv) (ed_int (i := 0)) (atI0 _ _)) (ed_str (x := x)) (sh_str so) (sh_str sx))
  rw [strEq] at this
  exact this
theorem tfe {i : Nat} {o x : Str} {r : List PyData} (e1 : σ[i]? = some (some v)) (hv : Dq K b H v (.tuple (.str o :: r))) (so : PyData.strOk o = true) (sx : PyData.strOk x = true) : EvT (tTest (tOp (rEqD K) (tOp (rIxT K) (tVar i) (tC (.int 0))) (tC (.str x)))) σ H (decide (o = x)) := by
  have := et_t (ed_eq (K := K) (b := b) (ed_ixT (ed_var (i := i) e1 hv) (ed_int (i := 0)) (atI0 _ _)) (ed_str (x := x)) (sh_str so) (sh_str sx))
  rw [strEq] at this
  exact this
end
section
variable {P : Program} {w : World} {K : PySem.W.Frag} {mg : Str → Option Value} {base : Heap} {f g g2 : Addr} {fd gd gd2 : FuncData}
theorem ok_lr0 {k : Nat} : FnOk P w K mg base CX0 k f fd PLr (spLW K k 0) := fnok_none fun vs H Q E ⟨b, p, tup, sp, kd, hs, M, T, s, ρ, u, d, deep, m, _, _, _, q⟩ => q.1 rfl
theorem ok_lr (n k : Nat) (Dr : Def K mg "_law_reckoned" s_lr PLr f fd) (IH : FnOk P w K mg base CX0 k f fd PLr (spLW K k n)) (De : Def K mg "_law_entered" s_le PLe g gd) (Ge : FnOk P w K mg base CX0 k g gd PLe (spLE K k n)) (Do : Def K mg "_law_op" s_lo PLo g2 gd2) (Go : FnOk P w K mg base CX0 1 g2 gd2 PLo (spP K OpPre (opOf fun o i j => resO (opR o i j)))) (B : Blt mg) :
    FnOk P w K mg base CX0 (k + 1) f fd PLr (spLW K (k + 1) (n + 1)) := by
  refine Dr.F.ok sc_lr (fun vs H Q E ⟨b, p, tup, sp, kd, hs, M, T, s, ρ, u, d, deep, m, e, _⟩ => by rw [e]; rfl) (fun cdv A outer sh H vs Q E hr h => ?_)
  obtain ⟨b, p, tup, sp, kd, hs, MM, TT, s, ρ, u, d, deep, m, rfl, h12, I, q⟩ := h
  have r1 : Room 1 _ := hr.mono (by omega)
  refine ⟨_, pss_cons (ps_if (pt_val (pe_callB call_isi rfl B.isi bb_isinstance (pa_cons (pv 1) (pa_cons (pe_tyN rfl B.int bt_int) pa_nil)))) (pss_one (ps_ret (pe_tupF (pa_cons pe_str (pa_cons (pv 1) pa_nil))))) pss_nil)
    (pss_cons (ps_if (pt_cmpR (op_eqD (hu64 hr)) (pe_ix ix_tup (pv 1) pe_int (fun _ _ => rfl)) pe_str (nomark _)) (pss_one (ps_ret (pe_ifExp (pt_cmp (pc_din (hu1 hr) (pe_ix (r := rIxT K) ix_tup (pv 1) pe_int (fun _ _ => rfl)) (pv 2)) rfl) (pe_tupF (pa_cons pe_str (pa_cons (pe_dget (hu1 hr) (pv 2) (pe_ix (r := rIxT K) ix_tup (pv 1) pe_int (fun _ _ => rfl)) (fun _ _ => rfl)) pa_nil))) (pe_tupF (pa_cons pe_str (pa_cons (pe_un un_neg pe_int) pa_nil)))))) pss_nil)
    (pss_cons (ps_set (i := 3) sc_lr.nd rfl (Or.inl rfl) (pe_lst pa_nil))
    (pss_cons (ps_for PassesOwn.never rfl (pi_tup (pe_ix ix_list (pe_lst (pa_cons (pe_slice sl_tupF (pv 1) (po_some pe_int) po_none) (pa_cons (pe_ix ix_tup (pv 1) pe_int (fun _ _ => rfl)) pa_nil))) (pe_callTy call_intB rfl B.int bt_int (pa_cons (pe_cmpR (op_eqD (hu64 hr)) (pe_ix ix_tup (pv 1) pe_int (fun _ _ => rfl)) pe_str (nomark _)) pa_nil)) (fun _ _ => rfl))) (pg_name (i := 4) sc_lr.nd rfl (Or.inl rfl)) (pss_cons (ps_set (i := 5) sc_lr.nd rfl (Or.inl rfl) (pe_cd Dr IH hr (pa_cons (pv 0) (pa_cons (pv 4) (pa_cons (pv 2) pa_nil)))))
    (pss_cons (ps_if (pt_cmpR (op_neD (hu64 hr)) (pe_ix ix_tup (pv 5) pe_int (fun _ _ => rfl)) pe_str (nomark _)) (pss_one (ps_ret (pv 5))) pss_nil)
    (pss_one (ps_expr (pe_bm PySem.F.plainAttrs_list PySem.F.slot_list_append PySem.F.type_list_append mt_append (pv 3) (pa_cons (pe_ix ix_tup (pv 5) pe_int (fun _ _ => rfl)) pa_nil)))))))
    (pss_cons (ps_if (pt_cmpR (op_eqD (hu64 hr)) (pe_ix ix_tup (pv 1) pe_int (fun _ _ => rfl)) pe_str (nomark _)) (pss_cons (ps_set (i := 5) sc_lr.nd rfl (Or.inl rfl) (pe_cd De Ge hr (pa_cons (pv 0) (pa_cons (pe_ix ix_tup (pv 1) pe_int (fun _ _ => rfl)) (pa_cons (pv 3) pa_nil)))))
    (pss_one (ps_ret (pe_ifExp (pt_cmpR (op_eqD (hu64 hr)) (pe_ix ix_tup (pv 5) pe_int (fun _ _ => rfl)) pe_str (nomark _)) (pe_tupF (pa_cons pe_str (pa_cons (pe_ix ix_tup (pv 5) pe_int (fun _ _ => rfl)) pa_nil))) (pv 5))))) pss_nil)
    (pss_one (ps_ret (pe_cd Do Go r1 (pa_cons (pe_ix ix_tup (pv 1) pe_int (fun _ _ => rfl)) (pa_cons (pe_ix ix_list (pv 3) pe_int (fun _ _ => rfl)) (pa_cons (pe_ix ix_list (pv 3) pe_int (fun _ _ => rfl)) pa_nil)))))))))), ?_⟩
  have hsl : sizeLine = 16777216 := sizeLine_eq
  have S := sem_ok I.te.hT n
  obtain ⟨kn0, hkd⟩ := I.kd
  have hu := I.hu
  have te := I.te
  obtain ⟨qs, q⟩ := q
  have qs : (vStep TT (sem TT n) deep ρ s d).1 ≠ .s := qs
  have q : ∀ v H', ExS [p, sp] H H' → Lr p tup sp (lefV (vStep TT (sem TT n) deep ρ s d).1 (vStep TT (sem TT n) deep ρ s d).2) deep H' → Dq K b H' v (resV (vStep TT (sem TT n) deep ρ s d).1) → Q v H' := q
  have t1 := et_b (ed_isi (K := K) (b := b) (σ := start NLr [.ref p, u, .ref kd]) (H := H) (T := "int") (by first | exact .inl rfl | exact .inr (.inl rfl) | exact .inr (.inr (.inl rfl)) | exact .inr (.inr (.inr (.inl rfl))) | exact .inr (.inr (.inr (.inr rfl)))) (ed_var (i := 1) rfl hu))
  have tw : ∀ (x : Str) (H' : Hp) (σ' : L2.St) {o : Str} {r : List PyData}, σ'[1]? = some (some u) → Dq K b H' u (.tuple (.str o :: r)) → PyData.strOk o = true → PyData.strOk x = true → EvT (tTest (tOp (rEqD K) (tOp (rIxT K) (tVar 1) (tC (.int 0))) (tC (.str x)))) σ' H' (decide (o = x)) := fun x H' σ' {o r} e1 e2 so sx => by
    have := et_t (ed_eq (K := K) (b := b) (ed_ixT (ed_var (i := 1) e1 e2) (ed_int (i := 0)) (atI0 _ _)) (ed_str (x := x)) (sh_str so) (sh_str sx))
    rw [strEq] at this
    exact this
  refine g_ifE (K := K) t1 fun H1 x1 => ?_
  rcases vap_view (T := TT) (F := sem TT n) (deep := deep) (ρ := ρ) (s := s) I.hd with ⟨i, rfl, hi⟩ | ⟨y, rfl, hy⟩ | ⟨j0, o, d1, d2, ds, G, em, pk⟩
  · have e1 : isD "int" (.int i) = true := by rfl
    rw [e1, if_pos rfl]
    exact ed_tup (K := K) (b := b) (ds := [.str "worth", .int i]) (te.kn.up x1) (ea_cons (ed_str (x := "worth")) (ea_cons (ed_var (i := 1) rfl (Dq.up hu x1)) ea_nil)) (by rw [hsl]; show 2 ≤ 16777216; decide) H1 (Ex.refl H1) _ fun v H2 x2 hv => q v H2 (exS (x1.trans x2)) (te.tl.up (x1.trans x2)) hv
  · have e1 : isD "int" (.tuple [.str "name", .str y]) = false := by rfl
    rw [e1, if_neg Bool.false_ne_true]
    refine gnext ?_
    refine g_yes (by have z := tw "name" H1 (start NLr [.ref p, u, .ref kd]) rfl (Dq.up hu x1) (by decide +kernel) (by decide +kernel); rw [decide_eq_true rfl] at z; exact z) fun H2 x2 => ?_
    have x12 := x1.trans x2
    have i1 : ∀ {H'}, Ex H H' → ED K b (tOp (rIxT K) (tVar 1) (tC (.int 1))) (start NLr [.ref p, u, .ref kd]) H' (.str y) := fun {H'} x => ed_ixT (K := K) (b := b) (ed_var (i := 1) rfl (Dq.up hu x)) (ed_int (i := 1)) (atI1 (PyData.str "name") (.str y) [])
    refine i1 x12 H2 (Ex.refl H2) _ fun vy H3 x3 hvy => ?_
    have ey := dq_str hvy
    subst ey
    have x13 := x12.trans x3
    obtain ⟨kvs, hk, hkl, hkv⟩ := hkd.up x13
    refine ⟨.ref kd, rfl, kd, _, rfl, DGet.k (k := Sum.inr y) hk, _, rfl, ?_⟩
    rw [hkv y]
    have q : ∀ v H', ExS [p, sp] H H' → Lr p tup sp (lefV (match ρ y with
      | some w => (.w w, s)
      | none => (.f (-3), s) : RV × Stt).1 (match ρ y with
      | some w => (.w w, s)
      | none => (.f (-3), s) : RV × Stt).2) deep H' → Dq K b H' v (resV (match ρ y with
      | some w => (.w w, s)
      | none => (.f (-3), s) : RV × Stt).1) → Q v H' := q
    cases hy' : ρ y with
    | none =>
      rw [hy'] at q
      show ite (false = true) _ _
      rw [if_neg Bool.false_ne_true]
      exact ed_tup (K := K) (b := b) (ds := [.str "fault", .int (-3)]) (te.kn.up x13) (ea_cons (ed_str (x := "fault")) (ea_cons (ed_neg (ed_int (i := 3))) ea_nil)) (by rw [hsl]; show 2 ≤ 16777216; decide) H3 (Ex.refl H3) _ fun v H4 x4 hv => q v H4 (exS (x13.trans x4)) (te.tl.up (x13.trans x4)) hv
    | some w' =>
      rw [hy'] at q
      show ite (true = true) _ _
      rw [if_pos rfl]
      have edg : ED K b (tDGet (tVar 2) (tOp (rIxT K) (tVar 1) (tC (.int 1)))) (start NLr [.ref p, u, .ref kd]) H3 (.int w') := fun H4 x4 Q' q' => ⟨.ref kd, rfl, i1 (x13.trans x4) H4 (Ex.refl H4) _ fun vy2 H5 x5 hy2 => by
        have ey2 := dq_str hy2
        subst ey2
        have hg : DGet H5 kd (.str y) (some (.int w')) := by
          have := DGet.k (k := Sum.inr y) (x5 _ _ (x4 _ _ hk))
          rw [hkv y, hy'] at this
          exact this
        exact ⟨kd, .int w', rfl, hg, q' _ H5 x5 (.int _)⟩⟩
      exact ed_tup (K := K) (b := b) (ds := [.str "worth", .int w']) (te.kn.up x13) (ea_cons (ed_str (x := "worth")) (ea_cons edg ea_nil)) (by rw [hsl]; show 2 ≤ 16777216; decide) H3 (Ex.refl H3) _ fun v H4 x4 hv => q v H4 (exS (x13.trans x4)) (te.tl.up (x13.trans x4)) hv
  · subst em
    have ed := pk.e
    subst ed
    have e1 : isD "int" (.tuple [.str o, d1, d2]) = false := by rfl
    rw [e1, if_neg Bool.false_ne_true]
    refine gnext ?_
    refine g_no (by have z := tw "name" H1 (start NLr [.ref p, u, .ref kd]) rfl (Dq.up hu x1) pk.so (by decide +kernel); rw [decide_eq_false pk.no] at z; exact z) fun H2 x2 => ?_
    have x12 := x1.trans x2
    have te2 := te.up x12
    have hkd2 := hkd.up x12
    refine g_lst (K := K) (b := b) (i := 3) (ds := []) te2.kn ea_nil (by decide) fun D vD H3 hD x3 h3 dD => ?_
    cases dD
    have te3 : Lw K (D :: b) p tup sp hs MM TT s deep H3 := te2.new hD x3 (by rw [h3]; intro z; cases z)
    have hu2 := Dq.up hu x12
    have hu3 : Dq K (D :: b) H3 u (.tuple [.str o, d1, d2]) := dp_ex (hid_ex x3) _ _ (Dq.hide hu2 hD)
    show tSeq _ _ _ [some (.ref p), some u, some (.ref kd), some (.ref D), none, none] H3
    have u3 : ED K (D :: b) (tVar 1) [some (V.ref p), some u, some (.ref kd), some (.ref D), none, none] H3 (.tuple [.str o, d1, d2]) := ed_var (i := 1) rfl hu3
    have w0 : ED K (D :: b) (tOp (rEqD K) (tOp (rIxT K) (tVar 1) (tC (.int 0))) (tC (.str "call"))) [some (V.ref p), some u, some (.ref kd), some (.ref D), none, none] H3 (.bool (decide (o = "call"))) := (ed_eq (ed_ixT u3 (ed_int (i := 0)) (atI0 _ _)) (ed_str (x := "call")) (sh_str pk.so) (sh_str (by decide +kernel))).to (by rw [strEq])
    have it3 := ed_ixL (K := K) (b := D :: b) (z := .tuple ds) (ed_lst te3.kn (ea_cons (ed_slT te3.kn u3 (eo_some (K := K) (b := D :: b) (ed_int (i := 1))) eo_none) (ea_cons (ed_ixT u3 (ed_int (i := 2)) (atI2 (PyData.str o) d1 d2 [])) ea_nil)) (by rw [hsl]; show 2 ≤ 16777216; decide)) (ed_intB w0) (by
      have hit := pk.it
      by_cases c : o = "call"
      · rw [if_pos c] at hit
        rw [decide_eq_true c, hit]
        rfl
      · rw [if_neg c] at hit
        rw [decide_eq_false c, ← hit]
        rfl)
    refine it3 H3 (Ex.refl H3) _ fun vt H4 x4 hvt => ?_
    have te4 := te3.up x4
    have x24 := x3.trans x4
    have h4 := x4 _ _ h3
    cases hvt with
    | @tup at0 xs _ g1 gN g2 =>
    have lxs := dps_len g2
    have sD : ∀ c ∈ [p, sp, D], c ∈ D :: b := fun c hc => by
      rcases List.mem_cons.mp hc with rfl | hc
      · exact te4.pb
      · rcases List.mem_cons.mp hc with rfl | hc
        · exact te4.sb
        · rw [List.mem_singleton.mp hc]; exact List.mem_cons_self
    have pD : p ≠ D := fun e => te2.tl.nn p List.mem_cons_self (by rw [e]; exact hD)
    have spD : sp ≠ D := fun e => te2.tl.nn sp (List.mem_cons_of_mem _ List.mem_cons_self) (by rw [e]; exact hD)
    have dr : ∀ {H'}, ExS [p, sp, D] H4 H' → ExS [p, sp] H2 H' := fun x => ExS.drop (S := [p, sp]) x x24 hD
    have l10 : ds.length ≤ 10 := by
      rcases pk.c with ⟨_, x, _, hx, _⟩ | ⟨_, l2, _⟩
      · exact te.hT.k3 _ hx
      · omega
    rw [pk.v] at q qs
    refine ⟨at0, rfl, ⟨xs, ex_t hid_le g1⟩, ?_⟩
    refine for_tup (xs := xs) (Pv := fun i σ' H' => (∃ y4 y5, σ' = [some (.ref p), some u, some (.ref kd), some (.ref D), y4, y5]) ∧ ∃ si is, ExS [p, sp, D] H4 H' ∧ Lr p tup sp si deep H' ∧ SttLe s si ∧ (∀ j ∈ is, Wth j) ∧ is.length = i ∧ H' D = some (.lst (is.map V.int)) ∧ LVEnd K b p tup sp deep H (G (addV is (valsF (fun s d => (sem TT n).v deep ρ s d) si (ds.drop i)))) Q) ?_ ?_ ?_ ?_
    · exact ⟨⟨none, none, rfl⟩, s, [], ExS.refl, te4.tl, SttLe.refl s, fun j m => (nomatch m), rfl, h4, by rw [addV_nil, List.drop_zero]; exact ⟨qs, q⟩⟩
    · rintro i σ' H' _ ⟨_, si, is, x', _⟩
      exact ex_t (fun c o z => hid_le _ _ (hid_exS sD x' _ _ z)) g1
    · rintro i y σ' H7 hy ⟨⟨y4, y5, rfl⟩, si, is, x7, t7, le7, w7, l7, d7, q7⟩
      obtain ⟨e, hei, de⟩ := dps_at g2 hy
      obtain ⟨hil, eei⟩ := List.getElem?_eq_some_iff.mp hei
      have edr := List.drop_eq_getElem_cons hil
      rw [eei] at edr
      rw [edr] at q7
      have hem := List.mem_of_getElem? hei
      have nn7 : ∀ c ∈ [p, sp, D], H7 c ≠ none := fun c hc => by
        rcases List.mem_cons.mp hc with rfl | hc
        · exact t7.nn _ List.mem_cons_self
        · rcases List.mem_cons.mp hc with rfl | hc
          · exact t7.nn _ (List.mem_cons_of_mem _ List.mem_cons_self)
          · rw [List.mem_singleton.mp hc, d7]; intro z; cases z
      have te7 := te4.next sD nn7 x7 t7 (te.ok.le le7)
      have hkd7 := hkd2.atL te2.tl (dr x7)
      have vok := S.v deep ρ si e j0 I.ρ (pk.va e hem)
      refine ⟨.ref p, rfl, y, rfl, .ref kd, rfl, D :: b, p, tup, sp, kd, hs, MM, TT, si, ρ, y, e, deep, j0, rfl, (by omega), ⟨te7, List.mem_cons_of_mem _ I.kb, ⟨_, hkd7⟩, I.ρ, exS_dq sD x7 de, pk.va e hem⟩, ?_⟩
      rcases er : (sem TT n).v deep ρ si e with ⟨r, s1⟩
      rw [er] at vok
      have okr : r ≠ .s := fun z => by
        subst z
        rw [vals_n er (fun _ h => nomatch h)] at q7
        have : addV is (.inl RV.s, s1) = (.inl RV.s, s1) := rfl
        rw [this, pk.g] at q7
        exact q7.1 rfl
      refine ⟨okr, fun v H8 x8 t8 hv => ?_⟩
      have hv : Dq K (D :: b) H8 v (resV r) := hv
      have t8 : Lr p tup sp (lefV r s1) deep H8 := t8
      refine gas ?_
      have x28 : ExS [p, sp] H H8 := ((exS x12).trans (dr x7)).trans x8
      have tf : ∀ {o' : Str} {r' : List PyData}, resV r = .tuple (.str o' :: r') → PyData.strOk o' = true → EvT (tTest (tOp (rNeD K) (tOp (rIxT K) (tVar 5) (tC (.int 0))) (tC (.str "worth")))) [some (.ref p), some u, some (.ref kd), some (.ref D), some y, some v] H8 (!decide (o' = "worth")) := fun {o' r'} er so => tfd rfl (er ▸ hv) so (by decide +kernel)
      cases r with
      | s => exact absurd rfl okr
      | f j =>
        rw [vals_n er (fun _ h => nomatch h)] at q7
        have e9 : addV is (.inl (RV.f j), s1) = (.inl (RV.f j), s1) := rfl
        rw [e9, pk.g] at q7
        refine g_yes (tf (o' := "fault") (r' := [.int j]) rfl (by decide +kernel)) fun H9 x9 => ?_
        exact ⟨v, rfl, q7.2 v H9 (x28.trans (exS x9)) (t8.up x9) (Dq.up (dp_ex show_ex _ _ hv) x9)⟩
      | l =>
        rw [vals_n er (fun _ h => nomatch h)] at q7
        have e9 : addV is (.inl RV.l, s1) = (.inl RV.l, s1) := rfl
        rw [e9, pk.g] at q7
        refine g_yes (tf (o' := "long") (r' := []) rfl (by decide +kernel)) fun H9 x9 => ?_
        exact ⟨v, rfl, q7.2 v H9 (x28.trans (exS x9)) (t8.up x9) (Dq.up (dp_ex show_ex _ _ hv) x9)⟩
      | w j =>
        rw [vals_w er, addV_add] at q7
        refine g_no (tf (o' := "worth") (r' := [.int j]) rfl (by decide +kernel)) fun H9 x9 => ?_
        have d9 := x9 _ _ (x8 _ _ (fun m => by
          rcases List.mem_cons.mp m with m | m
          · exact pD m.symm
          · exact spD (List.mem_singleton.mp m).symm) d7)
        refine g_app (K := K) (b := D :: b) (j := 3) rfl d9 (by rw [List.length_map, l7]; omega) (ed_ixT (ed_var (i := 5) rfl (Dq.up hv x9)) (ed_int (i := 1)) (atI1 (PyData.str "worth") (.int j) [])) fun yv H10 x10 hyv => ?_
        have eyv := dq_int hyv
        subst eyv
        have t10 : Lr p tup sp s1 deep H10 := (t8.up x9).up x10
        refine ⟨⟨_, _, rfl⟩, s1, is ++ [j], fun c o m z => ?_, ⟨by rw [upd_ne pD]; exact t10.ins, by rw [upd_ne spD]; exact t10.spk⟩, le7.trans vok.1, fun z hz => ?_, by rw [List.length_append, l7, List.length_singleton], by rw [upd_same, List.map_append]; rfl, q7⟩
        · have cD : c ≠ D := fun h => m (by rw [h]; exact List.mem_cons_of_mem _ (List.mem_cons_of_mem _ List.mem_cons_self))
          rw [upd_ne cD]
          exact x10 _ _ (x9 _ _ (x8 _ _ (fun m2 => m (mem23 _ m2)) (x7 _ _ m z)))
        · rcases List.mem_append.mp hz with hz | hz
          · exact w7 z hz
          · rw [List.mem_singleton.mp hz]; exact vok.2 j (.inl rfl)
    · rintro σ' H7 ⟨⟨y4, y5, rfl⟩, si, is, x7, t7, le7, w7, l7, d7, q7⟩
      rw [lxs] at l7 q7
      rw [List.drop_length] at q7
      have e9 : addV is (valsF (fun s d => (sem TT n).v deep ρ s d) si []) = (.inr is, si) := by
        show ((Sum.inr (is ++ []) : RV ⊕ List Int), si) = (.inr is, si)
        rw [List.append_nil]
      rw [e9] at q7
      have nn7 : ∀ c ∈ [p, sp, D], H7 c ≠ none := fun c hc => by
        rcases List.mem_cons.mp hc with rfl | hc
        · exact t7.nn _ List.mem_cons_self
        · rcases List.mem_cons.mp hc with rfl | hc
          · exact t7.nn _ (List.mem_cons_of_mem _ List.mem_cons_self)
          · rw [List.mem_singleton.mp hc, d7]; intro z; cases z
      have te7 := te4.next sD nn7 x7 t7 (te.ok.le le7)
      have hu7 : Dq K b H7 u (.tuple [.str o, d1, d2]) := exS_dq te.s2 (dr x7) hu2
      have x07 : ExS [p, sp] H H7 := (exS x12).trans (dr x7)
      have tw7 := tw "call" H7 [some (.ref p), some u, some (.ref kd), some (.ref D), y4, y5] rfl hu7 pk.so (by decide +kernel)
      rcases pk.c with ⟨rfl, x, rfl, hx, eG⟩ | ⟨ho, l2, eG⟩
      · subst eG
        rw [decide_eq_true rfl] at tw7
        refine g_yes tw7 fun H8 x8 => ?_
        have te8 := te7.up x8
        refine ⟨.ref p, rfl, ?_⟩
        refine (ed_ixT (K := K) (b := b) (σ := [some (.ref p), some u, some (.ref kd), some (.ref D), y4, y5]) (ed_var (i := 1) rfl (Dq.up hu7 x8)) (ed_int (i := 1)) (atI1 (PyData.str "call") (.str x) [d2])) H8 (Ex.refl H8) _ fun vx H9 x9 hvx => ?_
        have ex := dq_str hvx
        subst ex
        have te9 := te8.up x9
        obtain ⟨t, et, el⟩ := te.hT.at_ x _ hx
        have q7 : LVEnd K b p tup sp deep H (callF TT (sem TT n) deep x is si) Q := q7
        have d9 := x9 _ _ (x8 _ _ d7)
        refine ⟨.ref D, rfl, D :: b, p, tup, sp, hs, MM, TT, si, x, t, is, D, false, deep, rfl, (by omega), te9, et, by rw [el, l7], w7, .inl (.inl d9), ?_⟩
        rcases er : callF TT (sem TT n) deep x is si with ⟨r, s1⟩
        rw [er] at q7
        have okr : r ≠ .s := q7.1
        have q7 := q7.2
        refine ⟨okr, fun v H10 x10 t10 hv => gas ?_⟩
        have hv : Dq K (D :: b) H10 v (endD r) := hv
        have x0a : ExS [p, sp] H H10 := (x07.trans (exS (x8.trans x9))).trans x10
        have t10 : Lr p tup sp (lefV r s1) deep H10 := t10
        have tf : ∀ {o' : Str} {r' : List PyData}, endD r = .tuple (.str o' :: r') → PyData.strOk o' = true → EvT (tTest (tOp (rEqD K) (tOp (rIxT K) (tVar 5) (tC (.int 0))) (tC (.str "back")))) [some (.ref p), some u, some (.ref kd), some (.ref D), y4, some v] H10 (decide (o' = "back")) := fun {o' r'} er so => tfe rfl (er ▸ hv) so (by decide +kernel)
        cases r with
        | s => exact absurd rfl okr
        | f j =>
          refine tf (o' := "fault") (r' := [.int j]) rfl (by decide +kernel) H10 (Ex.refl H10) _ fun H11 x11 => ?_
          show ite (false = true) _ _
          rw [if_neg Bool.false_ne_true]
          exact ⟨v, rfl, q7 v H11 (x0a.trans (exS x11)) (t10.up x11) (Dq.up (dp_ex show_ex _ _ hv) x11)⟩
        | l =>
          refine tf (o' := "long") (r' := []) rfl (by decide +kernel) H10 (Ex.refl H10) _ fun H11 x11 => ?_
          show ite (false = true) _ _
          rw [if_neg Bool.false_ne_true]
          exact ⟨v, rfl, q7 v H11 (x0a.trans (exS x11)) (t10.up x11) (Dq.up (dp_ex show_ex _ _ hv) x11)⟩
        | w j =>
          refine tf (o' := "back") (r' := [.int j]) rfl (by decide +kernel) H10 (Ex.refl H10) _ fun H11 x11 => ?_
          show ite (true = true) _ _
          rw [if_pos rfl]
          have kn11 : Kn b H11 := kn_exS te.kn (x0a.trans (exS x11)) (t10.up x11).nn
          exact ed_tup (K := K) (b := b) (ds := [.str "worth", .int j]) kn11 (ea_cons (ed_str (x := "worth")) (ea_cons (ed_ixT (ed_var (i := 5) rfl (Dq.up (dp_ex show_ex _ _ hv) x11)) (ed_int (i := 1)) (atI1 (PyData.str "back") (.int j) [])) ea_nil)) (by rw [hsl]; show 2 ≤ 16777216; decide) H11 (Ex.refl H11) _ fun v H12 x12 hv => q7 v H12 (x0a.trans (exS (x11.trans x12))) (t10.up (x11.trans x12)) hv
      · subst eG
        have onc : o ≠ "call" := (opW_not ho).2
        rw [decide_eq_false onc] at tw7
        refine g_no tw7 fun H8 x8 => ?_
        obtain ⟨i, j, rfl⟩ : ∃ i j, is = [i, j] := by
          rw [l2] at l7
          match is, l7 with
          | [i, j], _ => exact ⟨i, j, rfl⟩
        have te8 := te7.up x8
        have hDb : D ∉ b := te2.kn.new hD
        have kn8 : Kn b H8 := kn_exS te.kn (x07.trans (exS x8)) te8.tl.nn
        have hD8 : Dq K b H8 (.ref D) (.list [.int i, .int j]) := .lst (.inl (.inl (by rw [hid_ne hDb]; exact x8 _ _ d7))) (.cons (.int _) (.cons (.int _) .nil))
        have e1 := ed_ixT (K := K) (b := b) (σ := [some (.ref p), some u, some (.ref kd), some (.ref D), y4, y5]) (ed_var (i := 1) rfl (Dq.up hu7 x8)) (ed_int (i := 0)) (atI0 (PyData.str o) [d1, d2])
        have v3 : ED K b (tVar 3) [some (.ref p), some u, some (.ref kd), some (.ref D), y4, y5] H8 (.list [.int i, .int j]) := ed_var (i := 3) rfl hD8
        have ec := ed_call (K := K) (b := b) (pre := OpPre) (f := opOf fun o i j => resO (opR o i j)) (E := E0) kn8 (ea_cons e1 (ea_cons (ed_ixL v3 (ed_int (i := 0)) (atI0 (PyData.int i) [.int j])) (ea_cons (ed_ixL v3 (ed_int (i := 1)) (atI1 (PyData.int i) (.int j) [])) ea_nil))) ⟨o, i, j, rfl, ho, w7 i List.mem_cons_self, w7 j (List.mem_cons_of_mem _ List.mem_cons_self)⟩
        refine ec H8 (Ex.refl H8) _ fun v H9 x9 hv => ?_
        have hv : Dq K b H9 v (resO (opR o i j)) := hv
        have x09 := x07.trans (exS (x8.trans x9))
        have t9 := te8.tl.up x9
        have eo : opF o (.inr [i, j], si) = match opR o i j with
          | .inl f => (.f f, si)
          | .inr w => (.w w, si) := rfl
        rw [eo] at q7
        cases hR : opR o i j with
        | inl f =>
          rw [hR] at q7 hv
          exact q7.2 v H9 x09 t9 hv
        | inr w' =>
          rw [hR] at q7 hv
          exact q7.2 v H9 x09 t9 hv
end
end Wr

set_option Elab.async false
set_option linter.all false
set_option maxRecDepth 100000
set_option maxHeartbeats 4000000
namespace Wr
open PySem PySem.Spec PyProof.Rows L2 Evl
section
variable {p tup sp : Addr} {l deep : Int} {H : Hp}
theorem dg_tree (h : H p = some (.dK (rD tup sp l deep))) : DGet H p (.str "tree") (some (.ref tup)) := by
  have := DGet.k (k := Sum.inr "tree") h
  rw [rD_tree] at this
  exact this
theorem dg_left (h : H p = some (.dK (rD tup sp l deep))) : DGet H p (.str "left") (some (.int l)) := by
  have := DGet.k (k := Sum.inr "left") h
  rw [rD_left] at this
  exact this
theorem dg_said (h : H p = some (.dK (rD tup sp l deep))) : DGet H p (.str "said") (some (.ref sp)) := by
  have := DGet.k (k := Sum.inr "said") h
  rw [rD_said] at this
  exact this
theorem dg_deep (h : H p = some (.dK (rD tup sp l deep))) : DGet H p (.str "deep") (some (.int deep)) := by
  have := DGet.k (k := Sum.inr "deep") h
  rw [rD_deep] at this
  exact this
end
theorem rix_mono {K : PySem.W.Frag} {x y : V} {H : Hp} {Q Q' : VK} (h : rIx K x y H Q) (k : ∀ v H', Q v H' → Q' v H') : rIx K x y H Q' := by
  rcases h with ⟨p, xs, i, v, e1, e2, h1, h2, q⟩ | ⟨p, xs, i, v, e1, e2, h1, h2, q⟩ | ⟨z, i, c, e1, e2, h1, h2, q⟩
  · exact .inl ⟨p, xs, i, v, e1, e2, h1, h2, k _ _ q⟩
  · exact .inr (.inl ⟨p, xs, i, v, e1, e2, h1, h2, k _ _ q⟩)
  · exact .inr (.inr ⟨z, i, c, e1, e2, h1, h2, k _ _ q⟩)
section
variable {P : Program} {w : World} {K : PySem.W.Frag} {mg : Str → Option Value} {base : Heap} {f g g2 : Addr} {fd gd gd2 : FuncData}
theorem ok_le (n k : Nat) (De : Def K mg "_law_entered" s_le PLe f fd) (Dg : Def K mg "_law_gone" s_lg PLg g gd) (Gg : FnOk P w K mg base CX0 k g gd PLg (spLG K k n)) (B : Blt mg) :
    FnOk P w K mg base CX0 (k + 1) f fd PLe (spLE K (k + 1) n) := by
  refine De.F.ok sc_le (fun vs H Q E ⟨b, p, tup, sp, hs, M, T, s, x, t, is, u, tp, deep, e, _⟩ => by rw [e]; rfl) (fun cdv A outer sh H vs Q E hr h => ?_)
  obtain ⟨b, p, tup, sp, hs, MM, T, s, x, t, is, u, tp, deep, rfl, h12, te, et, el, wi, hsq, qs, q⟩ := h
  refine ⟨_, pss_cons (ps_if (pt_cmpR (op_eqD (hu64 hr)) (pe_dget (hu1 hr) (pv 0) pe_str (fun _ _ => rfl)) pe_int (nomark _)) (pss_one (ps_ret (pe_tupF (pa_cons pe_str (pa_cons (pe_un un_neg pe_int) pa_nil))))) pss_nil)
    (pss_cons (ps_asg (pe_dget (hu1 hr) (pe_dget (hu1 hr) (pv 0) pe_str (fun _ _ => rfl)) (pv 1) (fun _ _ => rfl)) (pg_tup rfl (pgs_cons (pg_name (i := 3) sc_le.nd rfl (Or.inl rfl)) (pgs_cons (pg_name (i := 4) sc_le.nd rfl (Or.inl rfl)) pgs_nil))))
    (pss_cons (ps_set (i := 5) sc_le.nd rfl (Or.inl rfl) pe_dnewK)
    (pss_cons (ps_for PassesOwn.never rfl (pi_range1 rfl B.range (pa_cons (pe_callB call_lenD1 rfl B.len bb_len (pa_cons (pv 3) pa_nil)) pa_nil)) (pg_name (i := 6) sc_le.nd rfl (Or.inl rfl)) (pss_one (ps_dput (hu1 hr) (pv 5) (pe_ix (r := rIxT K) ix_tup (pv 3) (pv 6) (fun _ _ => rfl)) (pe_ix (r := rIx K) ix_seq (pv 2) (pv 6) (fun _ _ => rfl)) rfl)))
    (pss_cons (ps_dput (hu1 hr) (pv 0) pe_str (pe_op op_add (pe_dget (hu1 hr) (pv 0) pe_str (fun _ _ => rfl)) pe_int) rfl)
    (pss_cons (ps_set (i := 7) sc_le.nd rfl (Or.inl rfl) (pe_cd Dg Gg hr (pa_cons (pv 0) (pa_cons (pv 4) (pa_cons (pv 5) pa_nil)))))
    (pss_cons (ps_dput (hu1 hr) (pv 0) pe_str (pe_op op_sub (pe_dget (hu1 hr) (pv 0) pe_str (fun _ _ => rfl)) pe_int) rfl)
    (pss_one (ps_ret (pe_ifExp (pt_cmp (pc_isN (pv 7))) (pe_tupF (pa_cons pe_str (pa_cons pe_int pa_nil))) (pv 7)))))))))), ?_⟩
  have hsl : sizeLine = 16777216 := sizeLine_eq
  have tl := te.tl
  have ed12 : ED K b (tOp (rEqD K) (tDGet (tVar 0) (tC (.str "deep"))) (tC (.int 12))) (start NLe [.ref p, .str x, .ref u]) H (.bool (PyData.eqv (.int (deep : Nat)) (.int 12))) :=
    ed_eq (fun H1 x1 Q q => ⟨.ref p, rfl, p, _, rfl, dg_deep (x1 _ _ tl.ins), q _ H1 (Ex.refl H1) (.int _)⟩) (ed_int (i := 12)) (sh_int _) (sh_int _)
  have t12 := et_t ed12
  rw [eqv_int] at t12
  refine g_ifE (K := K) t12 fun H1 x1 => ?_
  have hcf : callF T (sem T n) deep x is s = if 12 ≤ deep then (.f (-4), s) else (outG ((sem T n).g (deep + 1) (envOf t.1 is) s t.2).1, ((sem T n).g (deep + 1) (envOf t.1 is) s t.2).2.2) := by
    unfold callF
    rw [et]
  rw [hcf] at q qs
  by_cases hd : 12 ≤ deep
  · rw [if_pos hd] at q
    have e12 : (((deep : Nat) : Int) == 12) = true := by rw [beq_iff_eq]; omega
    rw [e12, if_pos rfl]
    exact ed_tup (K := K) (b := b) (ds := [.str "fault", .int (-4)]) (te.kn.up x1) (ea_cons (ed_str (x := "fault")) (ea_cons (ed_neg (ed_int (i := 4))) ea_nil)) (by rw [hsl]; show 2 ≤ 16777216; decide) H1 (Ex.refl H1) _ fun v H2 x2 hv => q v H2 (exS (x1.trans x2)) (tl.up (x1.trans x2)) hv
  rw [if_neg hd] at q qs
  have e12 : (((deep : Nat) : Int) == 12) = false := beq_eq_false_iff_ne.mpr (by omega)
  rw [e12, if_neg Bool.false_ne_true]
  refine gnext ?_
  have te1 := te.up x1
  obtain ⟨tvs, ht1, ht2⟩ := te1.tr
  obtain ⟨ta, hta, dta⟩ := ht2 x t et
  obtain ⟨ln, _, w, m, hM, hsa⟩ := te.hT.ok x t et
  have hg : DGet H1 tup (.str x) (some (.ref ta)) := by
    have := DGet.k (k := Sum.inr x) ht1
    rw [hta] at this
    exact this
  cases dta with
  | @tup _ ys _ g1 gn g2 =>
  cases g2 with
  | @cons vn _ _ _ m1 g2 =>
  cases g2 with
  | @cons vs _ _ _ m2 g2 =>
  cases g2
  refine ⟨.ref p, rfl, p, _, rfl, dg_tree te1.tl.ins, .str x, rfl, tup, .ref ta, rfl, hg, ta, [vn, vs], rfl, ex_t hid_le g1, rfl, vn, [vs], rfl, vs, [], rfl, rfl, ?_⟩
  cases m1 with
  | @tup an xn _ n1 nn n2 =>
  have en1 := dps_strs n2
  subst en1
  refine g_dnew fun kd hkd => ?_
  have dn : Dq K b H1 (.ref an) (.tuple (t.1.map PyData.str)) := .tup n1 nn n2
  have hkd2 : (upd H1 kd (.dK [])) kd = some (.dK []) := upd_same
  have xk := Ex.new (o := HO.dK []) hkd
  generalize upd H1 kd (.dK []) = H2 at hkd2 xk
  show tSeq _ _ _ [some (.ref p), some (.str x), some (.ref u), some (.ref an), some vs, some (.ref kd), none, none] H2
  have hsq1 := sqB_up x1 hsq
  have elen : (lenD (.tuple (t.1.map PyData.str)) : Nat) = is.length := by
    show (t.1.map PyData.str).length = _
    rw [List.length_map, el]
  have cnt := ed_len (K := K) (b := b) (ed_var (σ := [some (.ref p), some (.str x), some (.ref u), some (.ref an), some vs, some (.ref kd), none, none]) (i := 3) rfl (Dq.up dn xk)) (.inr (.inr rfl)) fun y e => by cases e
  rw [elen] at cnt
  refine g_forR (K := K) (b := b) (fun i σ' H' => (∃ y6, σ' = [some (.ref p), some (.str x), some (.ref u), some (.ref an), some vs, some (.ref kd), y6, none]) ∧ Ex H1 H' ∧ ∃ kvs, H' kd = some (.dK kvs) ∧ kvs.length ≤ i ∧ ∀ y, valV kvs (Sum.inr y) = (envOf (t.1.take i) (is.take i) y).map V.int) cnt (by omega) (by omega)
    (fun H3 x3 => ⟨⟨none, rfl⟩, xk.trans x3, [], x3 _ _ hkd2, Nat.le_refl _, fun y => by rw [List.take_zero, List.take_zero]; rfl⟩) ?_ ?_
  · rintro i σ' H3 hi ⟨⟨y6, rfl⟩, x3, kvs, hk3, lk3, vk3⟩
    have hi : i < is.length := by omega
    have hi2 : i < t.1.length := by omega
    show sDPut _ _ _ _ [some (.ref p), some (.str x), some (.ref u), some (.ref an), some vs, some (.ref kd), some (.int (0 + (i : Int))), none] H3
    rw [Int.zero_add]
    have a1 : atI (is.map V.int) ((i : Nat) : Int) = some (.int is[i]) := atI_nat (by rw [List.getElem?_map, List.getElem?_eq_getElem hi]; rfl)
    have a2 : atI (t.1.map V.str) ((i : Nat) : Int) = some (.str t.1[i]) := atI_nat (by rw [List.getElem?_map, List.getElem?_eq_getElem hi2]; rfl)
    have hsq3 := sqB_up x3 hsq1
    have lput := length_putK kvs (Sum.inr t.1[i]) (.int is[i])
    have go : ∀ H', H' = H3 → rIx K (.ref u) (.int (i : Nat)) H' fun v H1 => v = .int is[i] ∧ H1 = H3 := fun H' e => by
      subst e
      cases tp with
      | true => exact .inr (.inl ⟨u, _, _, _, rfl, rfl, hsq3, a1, rfl, rfl⟩)
      | false => exact .inl ⟨u, _, _, _, rfl, rfl, hsq3, a1, rfl, rfl⟩
    refine ⟨.ref u, rfl, .int (i : Nat), rfl, ?_⟩
    refine rix_mono (go H3 rfl) fun v H' ⟨ev, eH⟩ => ?_
    subst ev eH
    refine ⟨.ref kd, rfl, .ref an, rfl, .int (i : Nat), rfl, an, _, _, _, rfl, rfl, ex_t x3 (ex_t hid_le n1), a2, kd, _, rfl, .inl ⟨kvs, Sum.inr t.1[i], hk3, rfl, by rw [hsl]; omega, rfl⟩, ⟨_, rfl⟩, fun c o z => ?_, _, upd_same, by omega, fun y => ?_⟩
    · rw [upd_ne (fun e => by rw [e, hkd] at z; cases z)]
      exact x3 _ _ z
    · rw [kn_put vk3 y, List.take_succ, List.take_succ, List.getElem?_eq_getElem hi2, List.getElem?_eq_getElem hi]
      unfold envOf
      rw [Option.toList_some, Option.toList_some, putAll_snoc (by rw [List.length_take, List.length_take, el])]
  · rintro σ' H3 ⟨⟨y6, rfl⟩, x3, kvs, hk3, lk3, vk3⟩
    have hN : (((is.length : Nat) : Int)).toNat = is.length := by omega
    rw [hN] at lk3 vk3
    have e1 : t.1.take is.length = t.1 := by rw [← el]; exact List.take_length
    rw [e1, List.take_length] at vk3
    have te3 := te1.up x3
    refine ⟨.ref p, rfl, p, _, rfl, dg_deep te3.tl.ins, ((deep : Nat) : Int), 1, rfl, rfl, .ref p, rfl, p, _, rfl, .inl ⟨_, Sum.inr "deep", te3.tl.ins, rfl, by show 4 < sizeLine; rw [hsl]; decide, rfl⟩, ?_⟩
    rw [rD_pd]
    have pkd : p ≠ kd := fun e => te1.tl.nn p List.mem_cons_self (by rw [e]; exact hkd)
    have t4 : Lr p tup sp s (deep + 1) (upd H3 p (.dK (rD tup sp s.l (((deep : Nat) : Int) + 1)))) := ⟨upd_same, by rw [upd_ne (Ne.symm te3.tl.ne)]; exact te3.tl.spk⟩
    have x34 : ExS [p, sp] H3 (upd H3 p (.dK (rD tup sp s.l (((deep : Nat) : Int) + 1)))) := fun c o mm z => by
      rw [upd_ne (fun e => mm (by rw [e]; exact List.mem_cons_self))]
      exact z
    have hk4 : (upd H3 p (.dK (rD tup sp s.l (((deep : Nat) : Int) + 1)))) kd = some (.dK kvs) := by rw [upd_ne (Ne.symm pkd)]; exact hk3
    generalize upd H3 p (.dK (rD tup sp s.l (((deep : Nat) : Int) + 1))) = H4 at t4 x34 hk4
    have te3' := te1.new hkd x3 (by rw [hk3]; intro z; cases z)
    have te4 := te3'.next2 x34 t4 te3'.ok
    have lnn : is.length ≤ 10 := by omega
    have few := te.ok.few
    have kdk : KnD kd (envOf t.1 is) ((10 + s.l) - s.l) H4 := ⟨kvs, hk4, by omega, vk3⟩
    have hvs3 : Dq K (kd :: b) H3 vs (.tuple t.2) := dp_ex (hid_ex x3) _ _ (Dq.hide m2 hkd)
    have hvs : Dq K (kd :: b) H4 vs (.tuple t.2) := exS_dq te3'.s2 x34 hvs3
    have x14 : ExS [p, sp] H1 H4 := (exS x3).trans x34
    refine ⟨.ref p, rfl, vs, rfl, .ref kd, rfl, 10 + s.l, kd :: b, p, tup, sp, kd, hs, MM, T, s, envOf t.1 is, vs, t.2, deep + 1, w, m, rfl, (by omega), ⟨te4, List.mem_cons_self, kdk, by omega, env_ok wi, hvs⟩, hsa, ?_⟩
    rcases er : (sem T n).g (deep + 1) (envOf t.1 is) s t.2 with ⟨r, ρ1, s1⟩
    rw [er] at q qs
    have okr : r ≠ .s := fun z => by
      subst z
      exact qs rfl
    refine ⟨okr, fun v H5 x5 t5 k5 hv => gas ?_⟩
    have t5 : Lr p tup sp (lefG r s1) (deep + 1) H5 := t5
    have hv : Dq K (kd :: b) H5 v (resG r) := hv
    have x15 : ExS [p, sp] H1 H5 := fun c o mm z => by
      have ck : c ≠ kd := fun e => by rw [e, hkd] at z; cases z
      exact x5 c o (fun m2 => by
        rcases List.mem_cons.mp m2 with m2 | m2
        · exact mm (by rw [m2]; exact List.mem_cons_self)
        · rcases List.mem_cons.mp m2 with m2 | m2
          · exact mm (by rw [m2]; exact List.mem_cons_of_mem _ List.mem_cons_self)
          · exact ck (List.mem_singleton.mp m2)) (x14 c o mm z)
    refine ⟨.ref p, rfl, p, _, rfl, dg_deep t5.ins, _, 1, rfl, rfl, .ref p, rfl, p, _, rfl, .inl ⟨_, Sum.inr "deep", t5.ins, rfl, by show 4 < sizeLine; rw [hsl]; decide, rfl⟩, ?_⟩
    rw [rD_pd]
    have ed1 : (((deep + 1 : Nat) : Int)) - 1 = ((deep : Nat) : Int) := by omega
    rw [ed1]
    have t6 : Lr p tup sp (lefG r s1) deep (upd H5 p (.dK (rD tup sp (lefG r s1).l ((deep : Nat) : Int)))) := ⟨upd_same, by rw [upd_ne (Ne.symm t5.ne)]; exact t5.spk⟩
    have x56 : ExS [p, sp] H5 (upd H5 p (.dK (rD tup sp (lefG r s1).l ((deep : Nat) : Int)))) := fun c o mm z => by
      rw [upd_ne (fun e => mm (by rw [e]; exact List.mem_cons_self))]
      exact z
    have s2' : ∀ c ∈ [p, sp], c ∈ kd :: b := te3'.s2
    have hv6 := exS_dq s2' x56 hv
    generalize upd H5 p (.dK (rD tup sp (lefG r s1).l ((deep : Nat) : Int))) = H6 at t6 x56 hv6
    have x06 : ExS [p, sp] H H6 := ((exS x1).trans x15).trans x56
    have hvb : Dq K b H6 v (resG r) := dp_ex show_ex _ _ hv6
    have kn6 : Kn b H6 := kn_exS te.kn x06 t6.nn
    have q : ∀ v H', ExS [p, sp] H H' → Lr p tup sp (lefV (outG r) s1) deep H' → Dq K b H' v (endD (outG r)) → Q v H' := q
    cases r with
    | s => exact absurd rfl okr
    | n =>
      have ev : v = .non := by cases hvb; rfl
      subst ev
      refine ⟨.non, rfl, _, rfl, ?_⟩
      show ite (true = true) _ _
      rw [if_pos rfl]
      exact ed_tup (K := K) (b := b) (ds := [.str "back", .int 0]) kn6 (ea_cons (ed_str (x := "back")) (ea_cons (ed_int (i := 0)) ea_nil)) (by rw [hsl]; show 2 ≤ 16777216; decide) H6 (Ex.refl H6) _ fun v H7 x7 hv => q v H7 (x06.trans (exS x7)) (t6.up x7) hv
    | b i =>
      obtain ⟨a, rfl⟩ : ∃ a, v = .ref a := by cases hvb; exact ⟨_, rfl⟩
      refine ⟨.ref a, rfl, _, rfl, ?_⟩
      show ite (false = true) _ _
      rw [if_neg Bool.false_ne_true]
      exact ⟨.ref a, rfl, q _ H6 x06 t6 hvb⟩
    | f i =>
      obtain ⟨a, rfl⟩ : ∃ a, v = .ref a := by cases hvb; exact ⟨_, rfl⟩
      refine ⟨.ref a, rfl, _, rfl, ?_⟩
      show ite (false = true) _ _
      rw [if_neg Bool.false_ne_true]
      exact ⟨.ref a, rfl, q _ H6 x06 t6 hvb⟩
    | l =>
      obtain ⟨a, rfl⟩ : ∃ a, v = .ref a := by cases hvb; exact ⟨_, rfl⟩
      refine ⟨.ref a, rfl, _, rfl, ?_⟩
      show ite (false = true) _ _
      rw [if_neg Bool.false_ne_true]
      exact ⟨.ref a, rfl, q _ H6 x06 t6 hvb⟩
end
end Wr

set_option Elab.async false
set_option linter.all false
set_option maxRecDepth 100000
set_option maxHeartbeats 4000000
namespace Wr
open PySem PySem.Spec PyProof.Rows L2 Evl
theorem g_whNo {c : TT} {tb : TS} {D : Ends} {σ : L2.St} {H : Hp} (hc : ∀ H', EvT c σ H' false) (h : ∀ H', Ex H H' → D.nx σ H') : tWhile c tb D σ H :=
  ⟨fun _ σ' H' => σ' = σ ∧ Ex H H', ⟨0, rfl, Ex.refl H⟩, fun m σ' H' ⟨e, x⟩ => by
    subst e
    exact hc H' H' (Ex.refl _) _ fun H2 x2 => by
      rw [if_neg Bool.false_ne_true]
      exact h H2 (x.trans x2)⟩
/-- what comes of a saying's value -/
def thenF (Kf : Int → Stt → RG × Env' × Stt) (ρ : Env') (r : RV × Stt) : RG × Env' × Stt := match r with
  | (.w i, s1) => Kf i s1
  | (r, s1) => (retV r, ρ, s1)
structure SPack (hs : Hds) (T : Tt) (F : Sem) (deep w m : Nat) (ρ : Env') (s : Stt) (d : PyData) (o : Str) (r : List PyData) (v : PyData) (Kf : Int → Stt → RG × Env' × Stt) : Prop where
  e : d = .tuple (.str o :: r)
  so : PyData.strOk o = true
  no : o ≠ "try"
  at_ : atI (.str o :: r) (1 + if decide (o = "set") = true then 1 else 0) = some v
  va : VaP hs w v
  st : sStep T F deep ρ s d = thenF Kf ρ (F.v deep ρ s v)
  c : (o = "set" ∧ ∃ y, r = [.str y, v] ∧ PyData.strOk y = true ∧ Kf = fun i s1 => (.n, putE ρ y i, s1)) ∨ (o ∈ oneW' ∧ r = [v] ∧ Kf = fun i s1 => oneF F deep o ρ s1 i) ∨
    (o = "if" ∧ ∃ ss ts m', m = m' + 1 ∧ r = [v, .tuple ss, .tuple ts] ∧ (∀ d ∈ ss, SaP hs w m' d) ∧ (∀ d ∈ ts, SaP hs w m' d) ∧ Kf = fun i s1 => F.g deep ρ s1 (if i = 0 then ts else ss)) ∨
    (o = "while" ∧ ∃ ss m', m = m' + 1 ∧ r = [v, .tuple ss] ∧ (∀ d ∈ ss, SaP hs w m' d) ∧ Kf = fun i s1 => onceF (fun ρ s => F.g deep ρ s ss) (whileF (fun ρ s => F.v deep ρ s v) (fun ρ s => F.g deep ρ s ss) s.l.toNat) ρ (.w i, s1))
theorem sap_view {hs : Hds} {T : Tt} {F : Sem} {deep w m : Nat} {ρ : Env'} {s : Stt} {d : PyData} (h : SaP hs w m d) : (∃ y ss ts m', m = m' + 1 ∧ d = .tuple [.str "try", .tuple ss, .str y, .tuple ts] ∧ PyData.strOk y = true ∧ (∀ d ∈ ss, SaP hs w m' d) ∧ ∀ d ∈ ts, SaP hs w m' d) ∨ ∃ o r v Kf, SPack hs T F deep w m ρ s d o r v Kf := by
  cases h with
  | @set n y v hy hv =>
    refine .inr ⟨"set", [.str y, v], v, fun i s1 => (.n, putE ρ y i, s1), rfl, by decide +kernel, by decide +kernel, ?_, hv, ?_, .inl ⟨rfl, y, rfl, hy, rfl⟩⟩
    · rw [if_pos (decide_eq_true rfl)]
      exact atI2 _ _ _ _
    · rw [s_set]
      rcases F.v deep ρ s v with ⟨r, s1⟩
      cases r <;> rfl
  | @one n o v ho hv =>
    have nw := oneW_ok ho
    refine .inr ⟨o, [v], v, fun i s1 => oneF F deep o ρ s1 i, rfl, nw.1, nw.2.1, ?_, hv, ?_, .inr (.inl ⟨ho, rfl, rfl⟩)⟩
    · rw [decide_eq_false nw.2.2.2.1, if_neg Bool.false_ne_true]
      exact atI1 _ _ _
    · rw [s_one]
      rcases F.v deep ρ s v with ⟨r, s1⟩
      cases r <;> rfl
  | @ite n v ss ts hv h1 h2 =>
    refine .inr ⟨"if", [v, .tuple ss, .tuple ts], v, fun i s1 => F.g deep ρ s1 (if i = 0 then ts else ss), rfl, by decide +kernel, by decide +kernel, ?_, hv, ?_, .inr (.inr (.inl ⟨rfl, ss, ts, n, rfl, rfl, h1, h2, rfl⟩))⟩
    · rw [decide_eq_false (by decide +kernel), if_neg Bool.false_ne_true]
      exact atI1 _ _ _
    · rw [s_ite]
      rcases F.v deep ρ s v with ⟨r, s1⟩
      cases r <;> rfl
  | @whl n v ss hv h1 =>
    refine .inr ⟨"while", [v, .tuple ss], v, _, rfl, by decide +kernel, by decide +kernel, ?_, hv, ?_, .inr (.inr (.inr ⟨rfl, ss, n, rfl, rfl, h1, rfl⟩))⟩
    · rw [decide_eq_false (by decide +kernel), if_neg Bool.false_ne_true]
      exact atI1 _ _ _
    · rw [s_whl]
      show whileF (fun ρ s => F.v deep ρ s v) (fun ρ s => F.g deep ρ s ss) (s.l.toNat + 1) ρ s = _
      rw [while_once]
      rcases F.v deep ρ s v with ⟨r, s1⟩
      cases r <;> rfl
  | @tri n y ss ts hy h1 h2 => exact .inl ⟨y, ss, ts, n, rfl, rfl, hy, h1, h2⟩
section
variable {P : Program} {w : World} {K : PySem.W.Frag} {mg : Str → Option Value} {base : Heap} {f g g2 g3 : Addr} {fd gd gd2 gd3 : FuncData}
theorem twd {b : List Addr} {σ : L2.St} {H : Hp} {i : Nat} {o x : Str} (e1 : σ[i]? = some (some (.str o))) (so : PyData.strOk o = true) (sx : PyData.strOk x = true) : EvT (tTest (tOp (rEqD K) (tVar i) (tC (.str x)))) σ H (decide (o = x)) := by
  have := et_t (ed_eq (K := K) (b := b) (H := H) (ed_var (i := i) e1 (.str o)) (ed_str (x := x)) (sh_str so) (sh_str sx))
  rw [strEq] at this
  exact this
theorem et_isN {σ : L2.St} {H : Hp} {v : V} {i : Nat} (e : σ[i]? = some (some v)) : EvT (tTest (tIsN (tVar i))) σ H (decide (v = .non)) := fun H1 x1 Q q => ⟨v, e, _, rfl, q H1 (Ex.refl H1)⟩
theorem et_nN {σ : L2.St} {H : Hp} {v : V} {i : Nat} (e : σ[i]? = some (some v)) : EvT (tTest (tNotN (tVar i))) σ H (!decide (v = .non)) := fun H1 x1 Q q => ⟨v, e, _, rfl, q H1 (Ex.refl H1)⟩
theorem ok_l1 (n k : Nat) (D1 : Def K mg "_law_gone_one" s_l1 PL1 f fd) (Dg : Def K mg "_law_gone" s_lg PLg g gd) (Gg : FnOk P w K mg base CX0 k g gd PLg (spLG K k n)) (Dr : Def K mg "_law_reckoned" s_lr PLr g2 gd2) (Gr : FnOk P w K mg base CX0 k g2 gd2 PLr (spLW K k n)) (Di : Def K mg "_law_is_let" s_il ["_law_run"] g3 gd3) (B : Blt mg) :
    FnOk P w K mg base CX0 (k + 1) f fd PL1 (spL1 K (k + 1) n) := by
  refine D1.F.ok sc_l1 (fun vs H Q E ⟨c, b, p, tup, sp, kd, hs, M, T, s, ρ, u, d, deep, w, m, e, _⟩ => by rw [e]; rfl) (fun cdv A outer sh H vs Q E hr h => ?_)
  obtain ⟨c, b, p, tup, sp, kd, hs, MM, TT, s, ρ, u, d, deep, w', m, rfl, h12, I, hd, hc, qs, q⟩ := h
  have Gi := ok_il (P := P) (w := w) (base := base) Di
  have hm := sap_pos hd
  have r1 : Room 1 _ := hr.mono (by omega)
  refine ⟨_, pss_cons (ps_set (i := 3) sc_l1.nd rfl (Or.inl rfl) (pe_ix ix_tup (pv 1) pe_int (fun _ _ => rfl)))
    (pss_cons (ps_if (pt_cmpR (op_eqD (hu64 hr)) (pv 3) pe_str (nomark _)) (pss_cons (ps_set (i := 4) sc_l1.nd rfl (Or.inl rfl) (pe_cd Dg Gg hr (pa_cons (pv 0) (pa_cons (pe_ix ix_tup (pv 1) pe_int (fun _ _ => rfl)) (pa_cons (pv 2) pa_nil)))))
    (pss_cons (ps_if (PW.pt (pw_or (pt_cmp (pc_isN (pv 4))) (pw_or1 (pt_cmpR (op_neD (hu64 hr)) (pe_ix ix_tup (pv 4) pe_int (fun _ _ => rfl)) pe_str (nomark _))))) (pss_one (ps_ret (pv 4))) pss_nil)
    (pss_cons (ps_dput (hu1 hr) (pv 2) (pe_ix (r := rIxT K) ix_tup (pv 1) pe_int (fun _ _ => rfl)) (pe_ix (r := rIxT K) ix_tup (pv 4) pe_int (fun _ _ => rfl)) rfl)
    (pss_one (ps_ret (pe_cd Dg Gg hr (pa_cons (pv 0) (pa_cons (pe_ix ix_tup (pv 1) pe_int (fun _ _ => rfl)) (pa_cons (pv 2) pa_nil))))))))) pss_nil)
    (pss_cons (ps_set (i := 4) sc_l1.nd rfl (Or.inl rfl) (pe_cd Dr Gr hr (pa_cons (pv 0) (pa_cons (pe_ix ix_tup (pv 1) (pe_op op_add pe_int (pe_callTy call_intB rfl B.int bt_int (pa_cons (pe_cmpR (op_eqD (hu64 hr)) (pv 3) pe_str (nomark _)) pa_nil))) (fun _ _ => rfl)) (pa_cons (pv 2) pa_nil)))))
    (pss_cons (ps_if (pt_cmpR (op_neD (hu64 hr)) (pe_ix ix_tup (pv 4) pe_int (fun _ _ => rfl)) pe_str (nomark _)) (pss_one (ps_ret (pv 4))) pss_nil)
    (pss_cons (ps_if (pt_cmpR (op_eqD (hu64 hr)) (pv 3) pe_str (nomark _)) (pss_one (ps_dput (hu1 hr) (pv 2) (pe_ix (r := rIxT K) ix_tup (pv 1) pe_int (fun _ _ => rfl)) (pe_ix (r := rIxT K) ix_tup (pv 4) pe_int (fun _ _ => rfl)) rfl)) pss_nil)
    (pss_cons (ps_if (pt_cmpR (op_eqD (hu64 hr)) (pv 3) pe_str (nomark _)) (pss_one (ps_expr (pe_bm PySem.F.plainAttrs_list PySem.F.slot_list_append PySem.F.type_list_append mt_append (pe_dget (hu1 hr) (pv 0) pe_str (fun _ _ => rfl)) (pa_cons (pe_ix ix_tup (pv 4) pe_int (fun _ _ => rfl)) pa_nil)))) pss_nil)
    (pss_cons (ps_if (pt_cmpR (op_eqD (hu64 hr)) (pv 3) pe_str (nomark _)) (pss_one (ps_ret (pe_tupF (pa_cons pe_str (pa_cons (pe_ix ix_tup (pv 4) pe_int (fun _ _ => rfl)) pa_nil))))) pss_nil)
    (pss_cons (ps_if (pt_cmpR (op_eqD (hu64 hr)) (pv 3) pe_str (nomark _)) (pss_one (ps_ret (pe_tupF (pa_cons pe_str (pa_cons (pe_ix ix_tup (pv 4) pe_int (fun _ _ => rfl)) pa_nil))))) pss_nil)
    (pss_cons (ps_if (pt_cmpR (op_eqD (hu64 hr)) (pv 3) pe_str (nomark _)) (pss_one (ps_ret (pe_cd Dg Gg hr (pa_cons (pv 0) (pa_cons (pe_ix ix_tup (pv 1) (pe_op op_add pe_int (pe_callTy call_intB rfl B.int bt_int (pa_cons (pe_cmpR (op_eqD (hu64 hr)) (pe_ix ix_tup (pv 4) pe_int (fun _ _ => rfl)) pe_int (nomark _)) pa_nil))) (fun _ _ => rfl)) (pa_cons (pv 2) pa_nil)))))) pss_nil)
    (pss_cons (ps_while PassesOwn.never (PW.pt (pw_and (pt_cmpR (op_eqD (hu64 hr)) (pv 3) pe_str (nomark _)) (pw_and1 (pt_cmpR (op_neD (hu64 hr)) (pe_ix ix_tup (pv 4) pe_int (fun _ _ => rfl)) pe_int (nomark _))))) (pss_cons (ps_set (i := 5) sc_l1.nd rfl (Or.inl rfl) (pe_cd Dg Gg hr (pa_cons (pv 0) (pa_cons (pe_ix ix_tup (pv 1) pe_int (fun _ _ => rfl)) (pa_cons (pv 2) pa_nil)))))
    (pss_cons (ps_if (PW.pt (pw_or (pt_cmp (pc_notN (pv 5))) (pw_or1 (pt_not (pt_val (pe_cd Di Gi r1 (pa_cons (pv 0) pa_nil))))))) (pss_one (ps_ret (pe_ifExp (pt_cmp (pc_notN (pv 5))) (pv 5) (pe_tupF (pa_cons pe_str pa_nil))))) pss_nil)
    (pss_cons (ps_set (i := 4) sc_l1.nd rfl (Or.inl rfl) (pe_cd Dr Gr hr (pa_cons (pv 0) (pa_cons (pe_ix ix_tup (pv 1) pe_int (fun _ _ => rfl)) (pa_cons (pv 2) pa_nil)))))
    (pss_one (ps_if (pt_cmpR (op_neD (hu64 hr)) (pe_ix ix_tup (pv 4) pe_int (fun _ _ => rfl)) pe_str (nomark _)) (pss_one (ps_ret (pv 4))) pss_nil))))))
    (pss_one (ps_ret pe_non))))))))))), ?_⟩
  have hsl : sizeLine = 16777216 := sizeLine_eq
  have S := sem_ok I.te.hT n
  have te := I.te
  have hu := I.hu
  have s3 := te.s3 I.kb
  have s3' := te.s3 I.kb
  have kb := I.kb
  have rok := I.ρ
  have tw : ∀ (x : Str) (H' : Hp) (σ' : L2.St) {o : Str}, σ'[3]? = some (some (.str o)) → PyData.strOk o = true → PyData.strOk x = true → EvT (tTest (tOp (rEqD K) (tVar 3) (tC (.str x)))) σ' H' (decide (o = x)) := fun x H' σ' {o} e1 so sx => twd (b := b) e1 so sx
  obtain ⟨wd, rest0, ed, sok⟩ := sap_word hd
  have hu' : Dq K b H u (.tuple (.str wd :: rest0)) := by rw [ed] at hu; exact hu
  refine g_set (ed_ixT (K := K) (b := b) (ed_var (σ := start NL1 [.ref p, u, .ref kd]) (i := 1) rfl hu') (ed_int (i := 0)) (atI0 _ _)) fun v3 H1 x1 hv3 => ?_
  have ev3 := dq_str hv3
  subst ev3
  show tSeq _ _ _ [some (.ref p), some u, some (.ref kd), some (.str wd), none, none] H1
  have te1 := te.up x1
  rcases sap_view (T := TT) (F := sem TT n) (deep := deep) (ρ := ρ) (s := s) hd with ⟨y, ss, ts, m', rfl, rfl, hy, h1, h2⟩ | ⟨o, r, v, Kf, pk⟩
  · have ew : wd = "try" := by
      injection ed with ed
      injection ed with ed1
      injection ed1 with ed1
      exact ed1.symm
    subst ew
    rw [s_tri'] at q qs
    refine g_yes (by have z := tw "try" H1 [some (.ref p), some u, some (.ref kd), some (.str "try"), none, none] rfl sok (by decide +kernel); rw [decide_eq_true rfl] at z; exact z) fun H2 x2 => ?_
    have x12 := x1.trans x2
    have te2 := te.up x12
    refine ⟨.ref p, rfl, ?_⟩
    refine (ed_ixT (K := K) (b := b) (σ := [some (.ref p), some u, some (.ref kd), some (.str "try"), none, none]) (ed_var (i := 1) rfl (Dq.up hu x12)) (ed_int (i := 1)) (atI1 (PyData.str "try") (.tuple ss) [.str y, .tuple ts])) H2 (Ex.refl H2) _ fun ua H3 x3 hua => ?_
    have x13 := x12.trans x3
    have te3 := te.up x13
    have gok := S.g deep ρ s ss w' m' rok h1
    refine ⟨.ref kd, rfl, c - 1, b, p, tup, sp, kd, hs, MM, TT, s, ρ, ua, ss, deep, w', m', rfl, (by omega), ⟨te3, kb, I.kd.up x13, by omega, rok, hua⟩, h1, ?_⟩
    rcases er : (sem TT n).g deep ρ s ss with ⟨r, ρ1, s1⟩
    rw [er] at q qs gok
    have okr : r ≠ .s := fun z => by
      subst z
      exact qs rfl
    refine ⟨okr, fun v H4 x4 t4 k4 hv => gas ?_⟩
    have hv : Dq K b H4 v (resG r) := hv
    have t4 : Lr p tup sp (lefG r s1) deep H4 := t4
    have k4s : KnD kd ρ1 (c - 1 - s1.l) H4 := k4
    have x04 : ExS [p, sp, kd] H H4 := (exS x13).trans x4
    have le4 : SttLe s s1 := gok.1
    have tO : ∀ {a : Addr} {o' : Str} {r' : List PyData}, v = .ref a → resG r = .tuple (.str o' :: r') → PyData.strOk o' = true → EvT (tOr (tTest (tIsN (tVar 4))) (tTest (tOp (rNeD K) (tOp (rIxT K) (tVar 4) (tC (.int 0))) (tC (.str "fault"))))) [some (.ref p), some u, some (.ref kd), some (.str "try"), some v, none] H4 (decide (v = .non) || !decide (o' = "fault")) := fun {a o' r'} e er so => et_or (et_isN rfl) fun _ => tfd rfl (er ▸ hv) so (by decide +kernel)
    cases r with
    | s => exact absurd rfl okr
    | n =>
      have ev : v = .non := by cases hv; rfl
      subst ev
      have tN : EvT (tOr (tTest (tIsN (tVar 4))) (tTest (tOp (rNeD K) (tOp (rIxT K) (tVar 4) (tC (.int 0))) (tC (.str "fault"))))) [some (.ref p), some u, some (.ref kd), some (.str "try"), some .non, none] H4 (decide ((V.non : V) = .non) || true) := et_or (et_isN rfl) fun e => absurd e (by decide)
      refine g_yes tN fun H5 x5 => ?_
      exact ⟨.non, rfl, q .non H5 (x04.trans (exS x5)) (t4.up x5) ((k4s.up x5).le (by show c - 1 - s1.l ≤ c - s1.l; omega)) .non⟩
    | b i =>
      obtain ⟨a, rfl⟩ : ∃ a, v = .ref a := by cases hv; exact ⟨_, rfl⟩
      refine g_yes (tO (o' := "back") (r' := [.int i]) rfl rfl (by decide +kernel)) fun H5 x5 => ?_
      exact ⟨.ref a, rfl, q _ H5 (x04.trans (exS x5)) (t4.up x5) ((k4s.up x5).le (by show c - 1 - s1.l ≤ c - s1.l; omega)) (Dq.up hv x5)⟩
    | l =>
      obtain ⟨a, rfl⟩ : ∃ a, v = .ref a := by cases hv; exact ⟨_, rfl⟩
      refine g_yes (tO (o' := "long") (r' := []) rfl rfl (by decide +kernel)) fun H5 x5 => ?_
      exact ⟨.ref a, rfl, q _ H5 (x04.trans (exS x5)) (t4.up x5) ((k4s.up x5).le (by show c - 1 - s1.l ≤ c - s1.l; omega)) (Dq.up hv x5)⟩
    | f i =>
      obtain ⟨a, rfl⟩ : ∃ a, v = .ref a := by cases hv; exact ⟨_, rfl⟩
      have wi := gok.2.2 i (.inr rfl)
      refine g_no (tO (o' := "fault") (r' := [.int i]) rfl rfl (by decide +kernel)) fun H5 x5 => ?_
      have te5 := (te3.next3 kb x4 t4 k4s (te.ok.le le4)).up x5
      have hu5 := Dq.up (exS_dq s3 x04 hu) x5
      have k5 := k4s.up x5
      refine (ed_ixT (K := K) (b := b) (σ := [some (.ref p), some u, some (.ref kd), some (.str "try"), some (.ref a), none]) (ed_var (i := 4) rfl (Dq.up hv x5)) (ed_int (i := 1)) (atI1 (PyData.str "fault") (.int i) [])) H5 (Ex.refl H5) _ fun vi H6 x6 hvi => ?_
      have evi := dq_int hvi
      subst evi
      refine ⟨.ref kd, rfl, ?_⟩
      refine (ed_ixT (K := K) (b := b) (σ := [some (.ref p), some u, some (.ref kd), some (.str "try"), some (.ref a), none]) (ed_var (i := 1) rfl (Dq.up hu5 x6)) (ed_int (i := 2)) (atI2 (PyData.str "try") (.tuple ss) (.str y) [.tuple ts])) H6 (Ex.refl H6) _ fun vy H7 x7 hvy => ?_
      have evy := dq_str hvy
      subst evy
      have te7 := (te5.up x6).up x7
      obtain ⟨kvs, hk, hkl, hkv⟩ := (k5.up x6).up x7
      have s1n : 0 ≤ s1.l := te7.ok.nn
      refine ⟨kd, _, rfl, .inl ⟨kvs, Sum.inr y, hk, rfl, by rw [hsl]; omega, rfl⟩, ?_⟩
      have nk := ((k5.up x6).up x7).notL te7.tl
      have kp : kd ≠ p := fun e => nk (by rw [e]; exact List.mem_cons_self)
      have ks : kd ≠ sp := fun e => nk (by rw [e]; exact List.mem_cons_of_mem _ List.mem_cons_self)
      have t8 : Lr p tup sp s1 deep (upd H7 kd (.dK (putK kvs (Sum.inr y) (.int i)))) := ⟨by rw [upd_ne (Ne.symm kp)]; exact te7.tl.ins, by rw [upd_ne (Ne.symm ks)]; exact te7.tl.spk⟩
      have k8 : KnD kd (putE ρ1 y i) (c - s1.l) (upd H7 kd (.dK (putK kvs (Sum.inr y) (.int i)))) := ⟨_, upd_same, by
        have := length_putK kvs (Sum.inr y) (.int i)
        omega, kn_put hkv⟩
      have x78 : ExS [p, sp, kd] H7 (upd H7 kd (.dK (putK kvs (Sum.inr y) (.int i)))) := fun c o m z => by
        rw [upd_ne (fun e => m (by rw [e]; exact List.mem_cons_of_mem _ (List.mem_cons_of_mem _ List.mem_cons_self)))]
        exact z
      generalize upd H7 kd (.dK (putK kvs (Sum.inr y) (.int i))) = H8 at t8 k8 x78
      have te8 := te7.next3 kb x78 t8 k8 te7.ok
      have x08 : ExS [p, sp, kd] H H8 := (x04.trans (exS ((x5.trans x6).trans x7))).trans x78
      refine ⟨.ref p, rfl, ?_⟩
      refine (ed_ixT (K := K) (b := b) (σ := [some (.ref p), some u, some (.ref kd), some (.str "try"), some (.ref a), none]) (ed_var (i := 1) rfl (exS_dq s3 x08 hu)) (ed_int (i := 3)) (atI_nat (j := 3) rfl)) H8 (Ex.refl H8) _ fun ub H9 x9 hub => ?_
      have hub : Dq K b H9 ub (.tuple ts) := hub
      have te9 := te8.up x9
      have x09 := x08.trans (exS x9)
      have q : ∀ v H', ExS [p, sp, kd] H H' → Lr p tup sp (lefG ((sem TT n).g deep (putE ρ1 y i) s1 ts).1 ((sem TT n).g deep (putE ρ1 y i) s1 ts).2.2) deep H' → KnD kd ((sem TT n).g deep (putE ρ1 y i) s1 ts).2.1 (c - ((sem TT n).g deep (putE ρ1 y i) s1 ts).2.2.l) H' → Dq K b H' v (resG ((sem TT n).g deep (putE ρ1 y i) s1 ts).1) → Q v H' := q
      exact ⟨.ref kd, rfl, c, b, p, tup, sp, kd, hs, MM, TT, s1, putE ρ1 y i, ub, ts, deep, w', m', rfl, (by omega), ⟨te9, kb, k8.up x9, hc, putE_ok gok.2.1 wi, hub⟩, h2, qs, fun v H' x' t' k' hv => q v H' (x09.trans x') t' k' hv⟩
  · have ew : o = wd ∧ r = rest0 := by
      have e := pk.e
      rw [ed] at e
      injection e with e
      injection e with e1 e2
      injection e1 with e1
      exact ⟨e1.symm, e2.symm⟩
    obtain ⟨rfl, rfl⟩ := ew
    rw [pk.st] at q qs
    have twN : ∀ (x : Str) (H' : Hp) (vf : Option V) (vg : Option V), PyData.strOk x = true → o ≠ x → EvT (tTest (tOp (rEqD K) (tVar 3) (tC (.str x)))) [some (.ref p), some u, some (.ref kd), some (.str o), vf, vg] H' false := fun x H' vf vg hx ne => by
      have z := tw x H' [some (.ref p), some u, some (.ref kd), some (.str o), vf, vg] rfl sok hx
      rw [decide_eq_false ne] at z
      exact z
    have twY : ∀ (x : Str) (H' : Hp) (vf : Option V) (vg : Option V), PyData.strOk x = true → o = x → EvT (tTest (tOp (rEqD K) (tVar 3) (tC (.str x)))) [some (.ref p), some u, some (.ref kd), some (.str o), vf, vg] H' true := fun x H' vf vg hx e => by
      have z := tw x H' [some (.ref p), some u, some (.ref kd), some (.str o), vf, vg] rfl sok hx
      rw [decide_eq_true e] at z
      exact z
    refine g_no (twN "try" H1 none none (by decide +kernel) pk.no) fun H2 x2 => ?_
    have x12 := x1.trans x2
    have te2 := te.up x12
    have es : ED K b (tOp (rEqD K) (tVar 3) (tC (.str "set"))) [some (V.ref p), some u, some (.ref kd), some (.str o), none, none] H2 (.bool (decide (o = "set"))) := (ed_eq (ed_var (i := 3) rfl (.str o)) (ed_str (x := "set")) (sh_str sok) (sh_str (by decide +kernel))).to (by rw [strEq])
    have e0 := ed_ixT (K := K) (b := b) (σ := [some (V.ref p), some u, some (.ref kd), some (.str o), none, none]) (ed_var (i := 1) rfl (Dq.up hu' x12)) (ed_add (ed_int (i := 1)) (ed_intB es)) pk.at_
    refine ⟨.ref p, rfl, ?_⟩
    refine e0 H2 (Ex.refl H2) _ fun uv H3 x3 huv => ?_
    have x13 := x12.trans x3
    have te3 := te.up x13
    have vok := S.v deep ρ s v w' rok pk.va
    refine ⟨.ref kd, rfl, b, p, tup, sp, kd, hs, MM, TT, s, ρ, uv, v, deep, w', rfl, (by omega), ⟨te3, kb, ⟨_, I.kd.up x13⟩, rok, huv, pk.va⟩, ?_⟩
    rcases er : (sem TT n).v deep ρ s v with ⟨r', s1⟩
    rw [er] at q qs vok
    have okr : r' ≠ .s := fun z => by
      subst z
      exact qs rfl
    refine ⟨okr, fun vf H4 x4 t4 hv => gas ?_⟩
    have hv : Dq K b H4 vf (resV r') := hv
    have t4 : Lr p tup sp (lefV r' s1) deep H4 := t4
    have x04 : ExS [p, sp, kd] H H4 := (exS x13).trans (x4.mono mem23)
    have le4 : SttLe s s1 := vok.1
    have k4' : KnD kd ρ (c - 1 - s1.l) H4 := ((I.kd.up x13).le (by have := le4.le; omega)).atL te3.tl x4
    have k4 : KnD kd ρ (c - s1.l) H4 := k4'.le (by omega)
    have tf : ∀ {o' : Str} {rr : List PyData}, resV r' = .tuple (.str o' :: rr) → PyData.strOk o' = true → EvT (tTest (tOp (rNeD K) (tOp (rIxT K) (tVar 4) (tC (.int 0))) (tC (.str "worth")))) [some (.ref p), some u, some (.ref kd), some (.str o), some vf, none] H4 (!decide (o' = "worth")) := fun {o' rr} er so => tfd rfl (er ▸ hv) so (by decide +kernel)
    cases r' with
    | s => exact absurd rfl okr
    | f j =>
      refine g_yes (tf (o' := "fault") (rr := [.int j]) rfl (by decide +kernel)) fun H5 x5 => ?_
      exact ⟨vf, rfl, q vf H5 (x04.trans (exS x5)) (t4.up x5) (k4.up x5) (Dq.up hv x5)⟩
    | l =>
      refine g_yes (tf (o' := "long") (rr := []) rfl (by decide +kernel)) fun H5 x5 => ?_
      exact ⟨vf, rfl, q vf H5 (x04.trans (exS x5)) (t4.up x5) (k4.up x5) (Dq.up hv x5)⟩
    | w i =>
    have wi := vok.2 i (.inl rfl)
    refine g_no (tf (o' := "worth") (rr := [.int i]) rfl (by decide +kernel)) fun H5 x5 => ?_
    have q : ∀ v H', ExS [p, sp, kd] H H' → Lr p tup sp (lefG (Kf i s1).1 (Kf i s1).2.2) deep H' → KnD kd (Kf i s1).2.1 (c - (Kf i s1).2.2.l) H' → Dq K b H' v (resG (Kf i s1).1) → Q v H' := q
    have qs : (Kf i s1).1 ≠ .s := qs
    have te5 := (te3.next2 x4 t4 (te.ok.le le4)).up x5
    have t5 : Lr p tup sp s1 deep H5 := te5.tl
    have x05 : ExS [p, sp, kd] H H5 := x04.trans (exS x5)
    have k5 := k4'.up x5
    have hv5 : Dq K b H5 vf (.tuple [.str "worth", .int i]) := Dq.up hv x5
    have hu5 := exS_dq s3 x05 hu'
    have f1 : ∀ {H' : Hp} {vg : Option V}, Ex H5 H' → ED K b (tOp (rIxT K) (tVar 4) (tC (.int 1))) [some (.ref p), some u, some (.ref kd), some (.str o), some vf, vg] H' (.int i) := fun {H' vg} x => ed_ixT (ed_var (i := 4) rfl (Dq.up hv5 x)) (ed_int (i := 1)) (atI1 (PyData.str "worth") (.int i) [])
    have wh : ∀ (H' : Hp) {e2 : L2.TT}, o ≠ "while" → EvT (tAnd (tTest (tOp (rEqD K) (tVar 3) (tC (.str "while")))) e2) [some (.ref p), some u, some (.ref kd), some (.str o), some vf, none] H' (false && false) := fun H' {e2} ne => et_and (twN "while" H' _ _ (by decide +kernel) ne) fun e => nomatch e
    rcases pk.c with ⟨rfl, y, rfl, hy, eK⟩ | ⟨ho, rfl, eK⟩ | ⟨rfl, ss, ts, m', rfl, rfl, h1, h2, eK⟩ | ⟨rfl, ss, m', rfl, rfl, h1, eK⟩
    · subst eK
      refine g_yes (twY "set" H5 _ _ (by decide +kernel) rfl) fun H6 x6 => ?_
      refine f1 x6 H6 (Ex.refl H6) _ fun vi H7 x7 hvi => ?_
      have evi := dq_int hvi
      subst evi
      refine ⟨.ref kd, rfl, ?_⟩
      have x57 := x6.trans x7
      refine (ed_ixT (K := K) (b := b) (σ := [some (.ref p), some u, some (.ref kd), some (.str "set"), some vf, none]) (ed_var (i := 1) rfl (Dq.up hu5 x57)) (ed_int (i := 1)) (atI1 (PyData.str "set") (.str y) [v])) H7 (Ex.refl H7) _ fun vy H8 x8 hvy => ?_
      have evy := dq_str hvy
      subst evy
      have te8 := te5.up (x57.trans x8)
      obtain ⟨kvs, hk, hkl, hkv⟩ := k5.up (x57.trans x8)
      have s1n : 0 ≤ s1.l := te8.ok.nn
      refine ⟨kd, _, rfl, .inl ⟨kvs, Sum.inr y, hk, rfl, by rw [hsl]; omega, rfl⟩, ?_⟩
      have nk := (k5.up (x57.trans x8)).notL te8.tl
      have kp : kd ≠ p := fun e => nk (by rw [e]; exact List.mem_cons_self)
      have ks : kd ≠ sp := fun e => nk (by rw [e]; exact List.mem_cons_of_mem _ List.mem_cons_self)
      have t9 : Lr p tup sp s1 deep (upd H8 kd (.dK (putK kvs (Sum.inr y) (.int i)))) := ⟨by rw [upd_ne (Ne.symm kp)]; exact te8.tl.ins, by rw [upd_ne (Ne.symm ks)]; exact te8.tl.spk⟩
      have k9 : KnD kd (putE ρ y i) (c - s1.l) (upd H8 kd (.dK (putK kvs (Sum.inr y) (.int i)))) := ⟨_, upd_same, by
        have := length_putK kvs (Sum.inr y) (.int i)
        omega, kn_put hkv⟩
      have x89 : ExS [p, sp, kd] H8 (upd H8 kd (.dK (putK kvs (Sum.inr y) (.int i)))) := fun c o m z => by
        rw [upd_ne (fun e => m (by rw [e]; exact List.mem_cons_of_mem _ (List.mem_cons_of_mem _ List.mem_cons_self)))]
        exact z
      generalize upd H8 kd (.dK (putK kvs (Sum.inr y) (.int i))) = H9 at t9 k9 x89
      have x09 : ExS [p, sp, kd] H H9 := (x05.trans (exS (x57.trans x8))).trans x89
      refine g_no (twN "say" H9 _ _ (by decide +kernel) (by decide +kernel)) fun Ha xa => ?_
      refine g_no (twN "back" Ha _ _ (by decide +kernel) (by decide +kernel)) fun Hb xb => ?_
      refine g_no (twN "throw" Hb _ _ (by decide +kernel) (by decide +kernel)) fun Hc xc => ?_
      refine g_no (twN "if" Hc _ _ (by decide +kernel) (by decide +kernel)) fun Hd xd => ?_
      refine g_whNo (fun H' => wh H' (by decide +kernel)) fun He xe => ?_
      have xx := (((xa.trans xb).trans xc).trans xd).trans xe
      exact q .non He (x09.trans (exS xx)) (t9.up xx) (k9.up xx) .non
    · subst eK
      have hon : o = "say" ∨ o = "back" ∨ o = "throw" := by
        simp only [oneW', List.mem_cons, List.not_mem_nil, or_false] at ho
        exact ho
      have nw := oneW_ok ho
      refine g_no (twN "set" H5 _ _ (by decide +kernel) nw.2.2.2.1) fun H6 x6 => ?_
      rcases hon with rfl | rfl | rfl
      · refine g_yes (twY "say" H6 _ _ (by decide +kernel) rfl) fun H7 x7 => ?_
        have x57 := x6.trans x7
        have t7 := t5.up x57
        refine ⟨.ref p, rfl, p, _, rfl, dg_said t7.ins, .inl ⟨rfl, _, .inl (.inl t7.spk)⟩, ?_⟩
        refine f1 x57 H7 (Ex.refl H7) _ fun vi H8 x8 hvi => ?_
        have evi := dq_int hvi
        subst evi
        have t8 := t7.up x8
        have te8 := te5.up (x57.trans x8)
        have few := te8.ok.few
        have nn := te8.ok.nn
        have few : (s1.said.length : Int) + s1.l ≤ 100 := few
        have nn : 0 ≤ s1.l := nn
        refine ⟨sp, _, .int i, rfl, rfl, t8.spk, by rw [List.length_map, hsl]; omega, ?_⟩
        have k8 := k5.up (x57.trans x8)
        have nk := k8.notL t8
        have ks : kd ≠ sp := fun e => nk (by rw [e]; exact List.mem_cons_of_mem _ List.mem_cons_self)
        have t9 : Lr p tup sp ⟨s1.l, s1.said ++ [i]⟩ deep (upd H8 sp (.lst (s1.said.map V.int ++ [.int i]))) := ⟨by rw [upd_ne t8.ne]; exact t8.ins, by rw [upd_same, List.map_append]; rfl⟩
        have k9 : KnD kd ρ (c - s1.l) (upd H8 sp (.lst (s1.said.map V.int ++ [.int i]))) := by
          obtain ⟨kvs, hk, hkl, hkv⟩ := k8
          exact ⟨kvs, by rw [upd_ne ks]; exact hk, by omega, hkv⟩
        have x89 : ExS [p, sp, kd] H8 (upd H8 sp (.lst (s1.said.map V.int ++ [.int i]))) := fun c o m z => by
          rw [upd_ne (fun e => m (by rw [e]; exact List.mem_cons_of_mem _ List.mem_cons_self))]
          exact z
        generalize upd H8 sp (.lst (s1.said.map V.int ++ [.int i])) = H9 at t9 k9 x89
        have x09 : ExS [p, sp, kd] H H9 := (x05.trans (exS (x57.trans x8))).trans x89
        refine g_no (twN "back" H9 _ _ (by decide +kernel) (by decide +kernel)) fun Hb xb => ?_
        refine g_no (twN "throw" Hb _ _ (by decide +kernel) (by decide +kernel)) fun Hc xc => ?_
        refine g_no (twN "if" Hc _ _ (by decide +kernel) (by decide +kernel)) fun Hd xd => ?_
        refine g_whNo (fun H' => wh H' (by decide +kernel)) fun He xe => ?_
        have xx := ((xb.trans xc).trans xd).trans xe
        have eo : oneF (sem TT n) deep "say" ρ s1 i = (.n, ρ, ⟨s1.l, s1.said ++ [i]⟩) := by
          unfold oneF
          rw [if_neg (by decide +kernel), if_neg (by decide +kernel)]
        have q := q
        dsimp only at q
        rw [eo] at q
        exact q .non He (x09.trans (exS xx)) (t9.up xx) (k9.up xx) .non
      · refine g_no (twN "say" H6 _ _ (by decide +kernel) (by decide +kernel)) fun H7 x7 => ?_
        refine g_yes (twY "back" H7 _ _ (by decide +kernel) rfl) fun H8 x8 => ?_
        have x58 := (x6.trans x7).trans x8
        have eo : oneF (sem TT n) deep "back" ρ s1 i = (.b i, ρ, s1) := by
          unfold oneF
          rw [if_neg (by decide +kernel), if_pos rfl]
        have q := q
        dsimp only at q
        rw [eo] at q
        exact ed_tup (K := K) (b := b) (ds := [.str "back", .int i]) (te5.kn.up x58) (ea_cons (ed_str (x := "back")) (ea_cons (f1 x58) ea_nil)) (by rw [hsl]; show 2 ≤ 16777216; decide) H8 (Ex.refl H8) _ fun vr H9 x9 hvr => q vr H9 (x05.trans (exS (x58.trans x9))) (t5.up (x58.trans x9)) ((k5.up (x58.trans x9)).le (by show c - 1 - s1.l ≤ c - s1.l; omega)) hvr
      · refine g_no (twN "say" H6 _ _ (by decide +kernel) (by decide +kernel)) fun H7 x7 => ?_
        refine g_no (twN "back" H7 _ _ (by decide +kernel) (by decide +kernel)) fun H7b x7b => ?_
        refine g_yes (twY "throw" H7b _ _ (by decide +kernel) rfl) fun H8 x8 => ?_
        have x58 := ((x6.trans x7).trans x7b).trans x8
        have eo : oneF (sem TT n) deep "throw" ρ s1 i = (.f i, ρ, s1) := by
          unfold oneF
          rw [if_pos rfl]
        have q := q
        dsimp only at q
        rw [eo] at q
        exact ed_tup (K := K) (b := b) (ds := [.str "fault", .int i]) (te5.kn.up x58) (ea_cons (ed_str (x := "fault")) (ea_cons (f1 x58) ea_nil)) (by rw [hsl]; show 2 ≤ 16777216; decide) H8 (Ex.refl H8) _ fun vr H9 x9 hvr => q vr H9 (x05.trans (exS (x58.trans x9))) (t5.up (x58.trans x9)) ((k5.up (x58.trans x9)).le (by show c - 1 - s1.l ≤ c - s1.l; omega)) hvr
    · subst eK
      refine g_no (twN "set" H5 _ _ (by decide +kernel) (by decide +kernel)) fun H6 x6 => ?_
      refine g_no (twN "say" H6 _ _ (by decide +kernel) (by decide +kernel)) fun H7 x7 => ?_
      refine g_no (twN "back" H7 _ _ (by decide +kernel) (by decide +kernel)) fun H8 x8 => ?_
      refine g_no (twN "throw" H8 _ _ (by decide +kernel) (by decide +kernel)) fun H9 x9 => ?_
      refine g_yes (twY "if" H9 _ _ (by decide +kernel) rfl) fun Ha xa => ?_
      have x5a := (((x6.trans x7).trans x8).trans x9).trans xa
      have teq := ed_eq (K := K) (b := b) (f1 (vg := none) x5a) (ed_int (i := 0)) (sh_int _) (sh_int _)
      rw [eqv_int] at teq
      have ei := ed_ixT (K := K) (b := b) (z := .tuple (if i = 0 then ts else ss)) (σ := [some (V.ref p), some u, some (.ref kd), some (.str "if"), some vf, none]) (ed_var (i := 1) rfl (Dq.up hu5 x5a)) (ed_add (ed_int (i := 2)) (ed_intB teq)) (by
        by_cases c0 : i = 0
        · rw [if_pos c0, c0]
          exact atI_nat (j := 3) rfl
        · rw [if_neg c0, beq_eq_false_iff_ne.mpr c0]
          exact atI2 _ _ _ _)
      refine ⟨.ref p, rfl, ?_⟩
      refine ei Ha (Ex.refl Ha) _ fun us Hb xb hus => ?_
      have teb := te5.up (x5a.trans xb)
      have kb' : KnD kd ρ (c - s1.l) Hb := (k5.up (x5a.trans xb)).le (by omega)
      exact ⟨.ref kd, rfl, c, b, p, tup, sp, kd, hs, MM, TT, s1, ρ, us, _, deep, w', m', rfl, (by omega), ⟨teb, kb, kb', hc, rok, hus⟩, by split <;> assumption, qs, fun vr H' x' t' k' hvr => q vr H' ((x05.trans (exS (x5a.trans xb))).trans x') t' k' hvr⟩
    · subst eK
      refine g_no (twN "set" H5 _ _ (by decide +kernel) (by decide +kernel)) fun H6 x6 => ?_
      refine g_no (twN "say" H6 _ _ (by decide +kernel) (by decide +kernel)) fun H7 x7 => ?_
      refine g_no (twN "back" H7 _ _ (by decide +kernel) (by decide +kernel)) fun H8 x8 => ?_
      refine g_no (twN "throw" H8 _ _ (by decide +kernel) (by decide +kernel)) fun H9 x9 => ?_
      refine g_no (twN "if" H9 _ _ (by decide +kernel) (by decide +kernel)) fun Ha xa => ?_
      have x5a := (((x6.trans x7).trans x8).trans x9).trans xa
      refine ⟨fun m1 σ' H' => (∃ vf y5, σ' = [some (.ref p), some u, some (.ref kd), some (.str "while"), some vf, y5] ∧ ∃ ρ1 s1 i, ExS [p, sp, kd] H H' ∧ Lr p tup sp s1 deep H' ∧ KnD kd ρ1 (c - s1.l) H' ∧ ρ1.ok ∧ SttLe s s1 ∧ Dq K b H' vf (.tuple [.str "worth", .int i]) ∧ LGEnd K b p tup sp kd deep c H (onceF (fun ρ s => (sem TT n).g deep ρ s ss) (whileF (fun ρ s => (sem TT n).v deep ρ s v) (fun ρ s => (sem TT n).g deep ρ s ss) m1) ρ1 (.w i, s1)) Q),
        ⟨s.l.toNat, vf, none, rfl, ρ, s1, i, x05.trans (exS x5a), t5.up x5a, (k5.up x5a).le (by omega), rok, le4, Dq.up hv5 x5a, qs, q⟩, ?_⟩
      clear q qs wh f1 hv5 k5 x05 t5 te5 wi tf k4 k4' x04 t4 hv vok er okr twN twY
      rintro m0 σ' H1' ⟨vf1, y5, rfl, ρ1, s2, i1, z1, t1, k1, rok1, le1, dv1, q1⟩
      have te1 := te.next3 kb z1 t1 k1 (te.ok.le le1)
      have cnd : ∀ H', Ex H1' H' → EvT (tAnd (tTest (tOp (rEqD K) (tVar 3) (tC (.str "while")))) (tTest (tOp (rNeD K) (tOp (rIxT K) (tVar 4) (tC (.int 1))) (tC (.int 0))))) [some (.ref p), some u, some (.ref kd), some (.str "while"), some vf1, y5] H' (decide (("while" : Str) = "while") && !(i1 == 0)) := fun H' x => et_and (tw "while" H' [some (.ref p), some u, some (.ref kd), some (.str "while"), some vf1, y5] rfl sok (by decide +kernel)) fun _ => by
        have := et_t (ed_ne (K := K) (b := b) (ed_ixT (ed_var (σ := [some (.ref p), some u, some (.ref kd), some (.str "while"), some vf1, y5]) (i := 4) rfl (Dq.up dv1 x)) (ed_int (i := 1)) (atI1 (PyData.str "worth") (.int i1) [])) (ed_int (i := 0)) (sh_int _) (sh_int _))
        rw [eqv_int] at this
        exact this
      refine cnd H1' (Ex.refl H1') H1' (Ex.refl H1') _ fun H2' x2' => ?_
      rw [decide_eq_true rfl, Bool.true_and]
      by_cases hi : i1 = 0
      · have q1 : LGEnd K b p tup sp kd deep c H (if i1 = 0 then (.n, ρ1, s2) else _) Q := q1
        rw [if_pos hi] at q1
        rw [hi]
        show ite (false = true) _ _
        rw [if_neg Bool.false_ne_true]
        exact q1.2 .non H2' (z1.trans (exS x2')) (t1.up x2') (k1.up x2') .non
      have q1 : LGEnd K b p tup sp kd deep c H (if i1 = 0 then (.n, ρ1, s2) else match (sem TT n).g deep ρ1 s2 ss with
        | (.n, ρ2, s3) => if s3.l ≤ 0 then (.l, ρ2, s3) else whileF (fun ρ s => (sem TT n).v deep ρ s v) (fun ρ s => (sem TT n).g deep ρ s ss) m0 ρ2 ⟨s3.l - 1, s3.said⟩
        | r => r) Q := q1
      rw [if_neg hi] at q1
      rw [beq_eq_false_iff_ne.mpr hi]
      show ite (true = true) _ _
      rw [if_pos rfl]
      refine ⟨fun σ' H' => ∃ m1, m1 < m0 ∧ (∃ vf y5, σ' = [some (.ref p), some u, some (.ref kd), some (.str "while"), some vf, y5] ∧ ∃ ρ1 s1 i, ExS [p, sp, kd] H H' ∧ Lr p tup sp s1 deep H' ∧ KnD kd ρ1 (c - s1.l) H' ∧ ρ1.ok ∧ SttLe s s1 ∧ Dq K b H' vf (.tuple [.str "worth", .int i]) ∧ LGEnd K b p tup sp kd deep c H (onceF (fun ρ s => (sem TT n).g deep ρ s ss) (whileF (fun ρ s => (sem TT n).v deep ρ s v) (fun ρ s => (sem TT n).g deep ρ s ss) m1) ρ1 (.w i, s1)) Q), fun σ' H' h => h, ?_⟩
      refine ⟨.ref p, rfl, ?_⟩
      have z2 := z1.trans (exS x2')
      refine (ed_ixT (K := K) (b := b) (σ := [some (.ref p), some u, some (.ref kd), some (.str "while"), some vf1, y5]) (ed_var (i := 1) rfl (exS_dq s3 z2 hu')) (ed_int (i := 2)) (atI2 (PyData.str "while") v (.tuple ss) [])) H2' (Ex.refl H2') _ fun us H3' x3' hus => ?_
      have z3 := z2.trans (exS x3')
      have x23 := x2'.trans x3'
      have te3' := te1.up x23
      have gok := S.g deep ρ1 s2 ss w' m' rok1 h1
      refine ⟨.ref kd, rfl, c, b, p, tup, sp, kd, hs, MM, TT, s2, ρ1, us, ss, deep, w', m', rfl, (by omega), ⟨te3', kb, k1.up x23, hc, rok1, hus⟩, h1, ?_⟩
      rcases er2 : (sem TT n).g deep ρ1 s2 ss with ⟨r2, ρ2, s3⟩
      rw [er2] at q1 gok
      have okr2 : r2 ≠ .s := fun z => by
        subst z
        exact q1.1 rfl
      have le3 : SttLe s2 s3 := gok.1
      refine ⟨okr2, fun vb H4' x4' t4' k4' hvb => gas ?_⟩
      have z4 := z3.trans x4'
      have fin : ∀ {a : Addr}, vb = .ref a → r2 ≠ .n → EvT (tOr (tTest (tNotN (tVar 5))) (tNot (tB (tCall spIl [] E0 (tCons (tVar 0) tNil))))) [some (.ref p), some u, some (.ref kd), some (.str "while"), some vf1, some vb] H4' ((!decide (vb = .non)) || true) := fun {a} e _ => et_or (et_nN rfl) fun h => by
        subst e
        rw [decide_eq_false (fun e => nomatch e)] at h
        cases h
      cases r2 with
      | s => exact absurd rfl okr2
      | b j =>
        obtain ⟨a, rfl⟩ : ∃ a, vb = .ref a := by cases hvb; exact ⟨_, rfl⟩
        refine g_yes (fin rfl (fun e => nomatch e)) fun H5' x5' => ?_
        refine ⟨.ref a, rfl, _, rfl, ?_⟩
        show ite (true = true) _ _
        rw [if_pos rfl]
        exact ⟨.ref a, rfl, q1.2 _ H5' (z4.trans (exS x5')) (t4'.up x5') (k4'.up x5') (Dq.up hvb x5')⟩
      | f j =>
        obtain ⟨a, rfl⟩ : ∃ a, vb = .ref a := by cases hvb; exact ⟨_, rfl⟩
        refine g_yes (fin rfl (fun e => nomatch e)) fun H5' x5' => ?_
        refine ⟨.ref a, rfl, _, rfl, ?_⟩
        show ite (true = true) _ _
        rw [if_pos rfl]
        exact ⟨.ref a, rfl, q1.2 _ H5' (z4.trans (exS x5')) (t4'.up x5') (k4'.up x5') (Dq.up hvb x5')⟩
      | l =>
        obtain ⟨a, rfl⟩ : ∃ a, vb = .ref a := by cases hvb; exact ⟨_, rfl⟩
        refine g_yes (fin rfl (fun e => nomatch e)) fun H5' x5' => ?_
        refine ⟨.ref a, rfl, _, rfl, ?_⟩
        show ite (true = true) _ _
        rw [if_pos rfl]
        exact ⟨.ref a, rfl, q1.2 _ H5' (z4.trans (exS x5')) (t4'.up x5') (k4'.up x5') (Dq.up hvb x5')⟩
      | n =>
        have evb : vb = .non := by cases hvb; rfl
        subst evb
        have t4s : Lr p tup sp s3 deep H4' := t4'
        have k4s : KnD kd ρ2 (c - s3.l) H4' := k4'
        have te4 := te.next3 kb z4 t4s k4s (te.ok.le (le1.trans le3))
        have q1 : LGEnd K b p tup sp kd deep c H (if s3.l ≤ 0 then (.l, ρ2, s3) else whileF (fun ρ s => (sem TT n).v deep ρ s v) (fun ρ s => (sem TT n).g deep ρ s ss) m0 ρ2 ⟨s3.l - 1, s3.said⟩) Q := q1
        refine ⟨.non, rfl, _, rfl, ?_⟩
        show ite (false = true) _ _
        rw [if_neg Bool.false_ne_true]
        refine ⟨.ref p, rfl, p, tup, sp, s3, deep, rfl, t4s, _, rfl, ?_⟩
        have nn3 : 0 ≤ s3.l := te4.ok.nn
        have kp : kd ≠ p := fun e => k4s.notL t4s (by rw [e]; exact List.mem_cons_self)
        have t5' : Lr p tup sp ⟨s3.l - 1, s3.said⟩ deep (upd H4' p (.dK (rD tup sp (s3.l - 1) deep))) := ⟨upd_same, by rw [upd_ne (Ne.symm t4s.ne)]; exact t4s.spk⟩
        have k5' : KnD kd ρ2 (c - s3.l) (upd H4' p (.dK (rD tup sp (s3.l - 1) deep))) := by
          obtain ⟨kvs, hk, hkl, hkv⟩ := k4s
          exact ⟨kvs, by rw [upd_ne kp]; exact hk, hkl, hkv⟩
        have x45 : ExS [p, sp, kd] H4' (upd H4' p (.dK (rD tup sp (s3.l - 1) deep))) := fun c o m z => by
          rw [upd_ne (fun e => m (by rw [e]; exact List.mem_cons_self))]
          exact z
        generalize upd H4' p (.dK (rD tup sp (s3.l - 1) deep)) = H5' at t5' k5' x45
        have z5 := z4.trans x45
        by_cases hl : s3.l ≤ 0
        · rw [if_pos hl] at q1
          rw [decide_eq_false (by omega)]
          show ite (true = true) _ _
          rw [if_pos rfl]
          refine ⟨.non, rfl, _, rfl, ?_⟩
          show ite (false = true) _ _
          rw [if_neg Bool.false_ne_true]
          have e0 : s3.l - 1 = -1 := by omega
          have kn5 : Kn b H5' := kn_exS te4.kn x45 (nn3L t5' k5')
          refine ed_tup (K := K) (b := b) (ds := [.str "long"]) kn5 (ea_cons (ed_str (x := "long")) ea_nil) (by rw [hsl]; show 1 ≤ 16777216; decide) H5' (Ex.refl H5') _ fun vr H6' x6' hvr => ?_
          refine q1.2 vr H6' (z5.trans (exS x6')) ?_ (k5'.up x6') hvr
          have := t5'.up x6'
          rw [e0] at this
          exact this
        · rw [if_neg hl] at q1
          rw [decide_eq_true (by omega)]
          show ite (false = true) _ _
          rw [if_neg Bool.false_ne_true]
          cases m0 with
          | zero => exact absurd rfl q1.1
          | succ m1 =>
          rw [while_once] at q1
          have le5 : SttLe s ⟨s3.l - 1, s3.said⟩ := (le1.trans le3).trans (SttLe.count hl)
          have te5 := te.next3 kb z5 t5' k5' (te.ok.le le5)
          refine gnext ?_
          refine ⟨.ref p, rfl, ?_⟩
          refine (ed_ixT (K := K) (b := b) (σ := [some (.ref p), some u, some (.ref kd), some (.str "while"), some vf1, some .non]) (ed_var (i := 1) rfl (exS_dq s3' z5 hu')) (ed_int (i := 1)) (atI1 (PyData.str "while") v [.tuple ss])) H5' (Ex.refl H5') _ fun uv H6' x6' huv => ?_
          have vok := S.v deep ρ2 ⟨s3.l - 1, s3.said⟩ v w' gok.2.1 pk.va
          have te6 := te5.up x6'
          have z6 := z5.trans (exS x6')
          refine ⟨.ref kd, rfl, b, p, tup, sp, kd, hs, MM, TT, ⟨s3.l - 1, s3.said⟩, ρ2, uv, v, deep, w', rfl, (by omega), ⟨te6, kb, ⟨_, k5'.up x6'⟩, gok.2.1, huv, pk.va⟩, ?_⟩
          have q1 : LGEnd K b p tup sp kd deep c H (onceF (fun ρ s => (sem TT n).g deep ρ s ss) (whileF (fun ρ s => (sem TT n).v deep ρ s v) (fun ρ s => (sem TT n).g deep ρ s ss) m1) ρ2 ((sem TT n).v deep ρ2 ⟨s3.l - 1, s3.said⟩ v)) Q := q1
          rcases er3 : (sem TT n).v deep ρ2 ⟨s3.l - 1, s3.said⟩ v with ⟨r3, s4⟩
          rw [er3] at q1 vok
          have okr3 : r3 ≠ .s := fun z => by
            subst z
            exact q1.1 rfl
          have le6 : SttLe ⟨s3.l - 1, s3.said⟩ s4 := vok.1
          refine ⟨okr3, fun vw H7' x7' t7' hvw => gas ?_⟩
          have hvw : Dq K b H7' vw (resV r3) := hvw
          have t7' : Lr p tup sp (lefV r3 s4) deep H7' := t7'
          have le6' : s4.l ≤ s3.l - 1 := le6.le
          have k7 : KnD kd ρ2 (c - s4.l) H7' := ((k5'.up x6').le (by omega)).atL te6.tl x7'
          have z7 : ExS [p, sp, kd] H H7' := z6.trans (x7'.mono mem23)
          have tf : ∀ {o' : Str} {rr : List PyData}, resV r3 = .tuple (.str o' :: rr) → PyData.strOk o' = true → EvT (tTest (tOp (rNeD K) (tOp (rIxT K) (tVar 4) (tC (.int 0))) (tC (.str "worth")))) [some (.ref p), some u, some (.ref kd), some (.str "while"), some vw, some .non] H7' (!decide (o' = "worth")) := fun {o' rr} er so => tfd rfl (er ▸ hvw) so (by decide +kernel)
          cases r3 with
          | s => exact absurd rfl okr3
          | f j =>
            refine tf (o' := "fault") (rr := [.int j]) rfl (by decide +kernel) H7' (Ex.refl _) _ fun H8' x8' => ?_
            show ite (true = true) _ _
            rw [if_pos rfl]
            exact ⟨vw, rfl, q1.2 vw H8' (z7.trans (exS x8')) (t7'.up x8') (k7.up x8') (Dq.up hvw x8')⟩
          | l =>
            refine tf (o' := "long") (rr := []) rfl (by decide +kernel) H7' (Ex.refl _) _ fun H8' x8' => ?_
            show ite (true = true) _ _
            rw [if_pos rfl]
            exact ⟨vw, rfl, q1.2 vw H8' (z7.trans (exS x8')) (t7'.up x8') (k7.up x8') (Dq.up hvw x8')⟩
          | w i3 =>
            refine tf (o' := "worth") (rr := [.int i3]) rfl (by decide +kernel) H7' (Ex.refl _) _ fun H8' x8' => ?_
            show ite (false = true) _ _
            rw [if_neg Bool.false_ne_true]
            exact ⟨m1, Nat.lt_succ_self _, vw, _, rfl, ρ2, s4, i3, z7.trans (exS x8'), t7'.up x8', k7.up x8', gok.2.1, le5.trans le6, Dq.up hvw x8', q1⟩
end
end Wr

set_option Elab.async false
set_option linter.all false
set_option maxRecDepth 100000
set_option maxHeartbeats 4000000
namespace Wr
open PySem PySem.Spec PyProof.Rows L2 Evl
section
variable {P : Program} {w : World} {K : PySem.W.Frag} {mg : Str → Option Value} {base : Heap} {f f1 fr fe fo fi g g3 : Addr} {fd d1 dr de dO di gd gd3 : FuncData}
theorem ok_lg0 {k : Nat} : FnOk P w K mg base CX0 k f fd PLg (spLG K k 0) := fnok_none fun vs H Q E ⟨c, b, p, tup, sp, kd, hs, M, T, s, ρ, u, ds, deep, w, m, _, _, _, _, q⟩ => q.1 rfl
theorem ok_lg (n k : Nat) (Dg : Def K mg "_law_gone" s_lg PLg f fd) (D1 : Def K mg "_law_gone_one" s_l1 PL1 g gd) (G1 : FnOk P w K mg base CX0 k g gd PL1 (spL1 K k n)) (Di : Def K mg "_law_is_let" s_il ["_law_run"] g3 gd3) :
    FnOk P w K mg base CX0 (k + 1) f fd PLg (spLG K (k + 1) (n + 1)) := by
  refine Dg.F.ok sc_lg (fun vs H Q E ⟨c, b, p, tup, sp, kd, hs, M, T, s, ρ, u, ds, deep, w, m, e, _⟩ => by rw [e]; rfl) (fun cdv A outer sh H vs Q E hr h => ?_)
  obtain ⟨c, b, p, tup, sp, kd, hs, MM, TT, s, ρ, u, ds, deep, w', m, rfl, h12, I, hds, q⟩ := h
  have Gi := ok_il (P := P) (w := w) (base := base) Di
  have r1 : Room 1 _ := hr.mono (by omega)
  refine ⟨_, pss_cons (ps_for PassesOwn.never rfl (pi_tup (pv 1)) (pg_name (i := 3) sc_lg.nd rfl (Or.inl rfl)) (pss_cons (ps_set (i := 4) sc_lg.nd rfl (Or.inl rfl) (pe_ifExp (pt_val (pe_cd Di Gi r1 (pa_cons (pv 0) pa_nil))) (pe_cd D1 G1 hr (pa_cons (pv 0) (pa_cons (pv 3) (pa_cons (pv 2) pa_nil)))) (pe_tupF (pa_cons pe_str pa_nil))))
    (pss_one (ps_if (pt_cmp (pc_notN (pv 4))) (pss_one (ps_ret (pv 4))) pss_nil))))
    (pss_one (ps_ret pe_non)), ?_⟩
  have hsl : sizeLine = 16777216 := sizeLine_eq
  have S := sem_ok I.te.hT n
  have q : LGEnd K b p tup sp kd deep c H (gStep TT (sem TT n) deep ρ s ds) Q := q
  have te := I.te
  have s3 := te.s3 I.kb
  have hu' := I.hu
  cases hu' with
  | @tup ta xs' _ g1 gn g2 =>
  have hl := dps_len g2
  have keep : ∀ {H'}, ExS [p, sp, kd] H H' → Ex (hid b H) (hid b H') := fun x => hid_exS s3 x
  refine ⟨.ref ta, rfl, ta, rfl, ⟨xs', ex_t hid_le g1⟩, ?_⟩
  refine for_tup (xs := xs') (Pv := fun i σ' H' => (∃ y4 y5, σ' = [some (.ref p), some (.ref ta), some (.ref kd), y4, y5]) ∧ ∃ ρ1 s1, ExS [p, sp, kd] H H' ∧ Lr p tup sp s1 deep H' ∧ KnD kd ρ1 (c - s1.l) H' ∧ ρ1.ok ∧ SttLe s s1 ∧ LGEnd K b p tup sp kd deep c H (gStep TT (sem TT n) deep ρ1 s1 (ds.drop i)) Q) ?_ ?_ ?_ ?_
  · exact ⟨⟨none, none, rfl⟩, ρ, s, ExS.refl, te.tl, I.kd, I.ρ, SttLe.refl s, q⟩
  · rintro i σ' H' _ ⟨_, ρ1, s1, x', _⟩
    exact ex_t (fun c o z => hid_le _ _ (keep x' _ _ z)) g1
  · rintro i x σ' H' hx ⟨⟨y4, y5, rfl⟩, ρ1, s1, x1, t1, k1, rok, le1, q1⟩
    obtain ⟨d, hd, dd⟩ := dps_at g2 hx
    obtain ⟨hil, eei⟩ := List.getElem?_eq_some_iff.mp hd
    have edr := List.drop_eq_getElem_cons hil
    rw [eei] at edr
    rw [edr, g_cons] at q1
    have hdm := hds d (List.mem_of_getElem? hd)
    have te1 := te.next3 I.kb x1 t1 k1 (te.ok.le le1)
    have gok := oneG_ok (deep := deep) (s := s1) te.hT S rok hdm
    refine ⟨.ref p, rfl, p, tup, sp, s1, deep, rfl, t1, _, rfl, ?_⟩
    have nn1 : 0 ≤ s1.l := te1.ok.nn
    have kp : kd ≠ p := fun e => k1.notL t1 (by rw [e]; exact List.mem_cons_self)
    have t2 : Lr p tup sp ⟨s1.l - 1, s1.said⟩ deep (upd H' p (.dK (rD tup sp (s1.l - 1) deep))) := ⟨upd_same, by rw [upd_ne (Ne.symm t1.ne)]; exact t1.spk⟩
    have k2 : KnD kd ρ1 (c - s1.l) (upd H' p (.dK (rD tup sp (s1.l - 1) deep))) := by
      obtain ⟨kvs, hk, hkl, hkv⟩ := k1
      exact ⟨kvs, by rw [upd_ne kp]; exact hk, hkl, hkv⟩
    have x12 : ExS [p, sp, kd] H' (upd H' p (.dK (rD tup sp (s1.l - 1) deep))) := fun c o m z => by
      rw [upd_ne (fun e => m (by rw [e]; exact List.mem_cons_self))]
      exact z
    generalize upd H' p (.dK (rD tup sp (s1.l - 1) deep)) = H2 at t2 k2 x12
    have x02 := x1.trans x12
    unfold oneG at q1 gok
    by_cases hl0 : s1.l ≤ 0
    · rw [if_pos hl0] at q1
      rw [decide_eq_false (by omega)]
      show ite (false = true) _ _
      rw [if_neg Bool.false_ne_true]
      have e0 : s1.l - 1 = -1 := by omega
      have kn2 : Kn b H2 := kn_exS te1.kn x12 (nn3L t2 k2)
      refine ed_tup (K := K) (b := b) (ds := [.str "long"]) kn2 (ea_cons (ed_str (x := "long")) ea_nil) (by rw [hsl]; show 1 ≤ 16777216; decide) H2 (Ex.refl H2) _ fun vr H3 x3 hvr => ?_
      refine gas ?_
      obtain ⟨a, rfl⟩ : ∃ a, vr = .ref a := by cases hvr; exact ⟨_, rfl⟩
      refine ⟨.ref a, rfl, _, rfl, ?_⟩
      show ite (true = true) _ _
      rw [if_pos rfl]
      have t3 := t2.up x3
      rw [e0] at t3
      exact ⟨.ref a, rfl, q1.2 _ H3 (x02.trans (exS x3)) t3 (k2.up x3) hvr⟩
    · rw [if_neg hl0] at q1 gok
      rw [decide_eq_true (by omega)]
      show ite (true = true) _ _
      rw [if_pos rfl]
      have le2 : SttLe s ⟨s1.l - 1, s1.said⟩ := le1.trans (SttLe.count hl0)
      have te2 := te.next3 I.kb x02 t2 k2 (te.ok.le le2)
      refine ⟨.ref p, rfl, x, rfl, .ref kd, rfl, c, b, p, tup, sp, kd, hs, MM, TT, ⟨s1.l - 1, s1.said⟩, ρ1, x, d, deep, w', m, rfl, (by omega), ⟨te2, I.kb, k2.le (by show c - s1.l ≤ c - 1 - (s1.l - 1); omega), by have := I.c; omega, rok, exS_dq s3 x02 dd⟩, hdm, I.c, ?_⟩
      rcases er : sStep TT (sem TT n) deep ρ1 ⟨s1.l - 1, s1.said⟩ d with ⟨r, ρ2, s2⟩
      rw [er] at q1 gok
      have le3 : SttLe s1 s2 := gok.1
      have okr : r ≠ .s := fun z => by
        subst z
        exact q1.1 rfl
      refine ⟨okr, fun vr H3 x3 t3 k3 hvr => gas ?_⟩
      have x03 := x02.trans x3
      cases r with
      | s => exact absurd rfl okr
      | n =>
        have ev : vr = .non := by cases hvr; rfl
        subst ev
        refine ⟨.non, rfl, _, rfl, ?_⟩
        show ite (false = true) _ _
        rw [if_neg Bool.false_ne_true]
        exact ⟨⟨_, _, rfl⟩, ρ2, s2, x03, t3, k3, gok.2.1, le1.trans le3, q1⟩
      | b j =>
        obtain ⟨a, rfl⟩ : ∃ a, vr = .ref a := by cases hvr; exact ⟨_, rfl⟩
        refine ⟨.ref a, rfl, _, rfl, ?_⟩
        show ite (true = true) _ _
        rw [if_pos rfl]
        exact ⟨.ref a, rfl, q1.2 _ H3 x03 t3 k3 hvr⟩
      | f j =>
        obtain ⟨a, rfl⟩ : ∃ a, vr = .ref a := by cases hvr; exact ⟨_, rfl⟩
        refine ⟨.ref a, rfl, _, rfl, ?_⟩
        show ite (true = true) _ _
        rw [if_pos rfl]
        exact ⟨.ref a, rfl, q1.2 _ H3 x03 t3 k3 hvr⟩
      | l =>
        obtain ⟨a, rfl⟩ : ∃ a, vr = .ref a := by cases hvr; exact ⟨_, rfl⟩
        refine ⟨.ref a, rfl, _, rfl, ?_⟩
        show ite (true = true) _ _
        rw [if_pos rfl]
        exact ⟨.ref a, rfl, q1.2 _ H3 x03 t3 k3 hvr⟩
  · rintro σ' H' ⟨⟨y4, y5, rfl⟩, ρ1, s1, x1, t1, k1, rok, le1, q1⟩
    rw [hl, List.drop_length] at q1
    exact q1.2 .non H' x1 t1 k1 .non
theorem ok_llv (Dg : Def K mg "_law_gone" s_lg PLg f fd) (D1 : Def K mg "_law_gone_one" s_l1 PL1 f1 d1) (Dr : Def K mg "_law_reckoned" s_lr PLr fr dr) (De : Def K mg "_law_entered" s_le PLe fe de) (Do : Def K mg "_law_op" s_lo PLo fo dO) (Di : Def K mg "_law_is_let" s_il ["_law_run"] fi di) (B : Blt mg) (B2 : Blt2 mg) :
    ∀ n k, FnOk P w K mg base CX0 k fr dr PLr (spLW K k n) ∧ FnOk P w K mg base CX0 k f fd PLg (spLG K k n)
  | 0, k => ⟨ok_lr0, ok_lg0⟩
  | n + 1, k => by
    have hh := ok_llv Dg D1 Dr De Do Di B B2 n
    by_cases hk : k < 8
    · exact ⟨fnok_none fun vs H Q E ⟨_, _, _, _, _, _, _, _, _, _, _, _, _, _, _, z, _⟩ => by omega, fnok_none fun vs H Q E ⟨_, _, _, _, _, _, _, _, _, _, _, _, _, _, _, _, _, z, _⟩ => by omega⟩
    obtain ⟨j, rfl⟩ : ∃ j, k = j + 2 := ⟨k - 2, by omega⟩
    have he := ok_le n j De Dg (hh j).2 B
    have h1 := ok_l1 n j D1 Dg (hh j).2 Dr (hh j).1 Di B
    exact ⟨ok_lr n (j + 1) Dr (hh (j + 1)).1 De he Do (ok_lo Do B B2) B, ok_lg n (j + 1) Dg D1 h1 Di⟩
theorem ok_entL (Dg : Def K mg "_law_gone" s_lg PLg f fd) (D1 : Def K mg "_law_gone_one" s_l1 PL1 f1 d1) (Dr : Def K mg "_law_reckoned" s_lr PLr fr dr) (De : Def K mg "_law_entered" s_le PLe fe de) (Do : Def K mg "_law_op" s_lo PLo fo dO) (Di : Def K mg "_law_is_let" s_il ["_law_run"] fi di) (B : Blt mg) (B2 : Blt2 mg) (n k : Nat) :
    FnOk P w K mg base CX0 (k + 1) fe de PLe (spLE K (k + 1) n) := ok_le n k De Dg (ok_llv Dg D1 Dr De Do Di B B2 n k).2 B
end
end Wr

set_option Elab.async false
set_option linter.all false
set_option maxRecDepth 100000
set_option maxHeartbeats 4000000
namespace Wr
open PySem PySem.Spec PyProof.Rows L2 Evl
abbrev s_lm : Stmt := topS 27
abbrev PLm : List Str := ["_law_tree", "_law_part", "_law_numbers", "_law_most"]
abbrev NLm : List Str := ["_law_tree", "_law_part", "_law_numbers", "_law_most", "_law_by_name", "_law_name", "_law_names", "_law_sayings", "_law_run", "_law_end"]
theorem sc_lm : FnScope NLm PLm (defScope s_lm) := ⟨rfl, rfl, rfl, by decide +kernel, rfl, by decide +kernel, by decide +kernel⟩
/-- how many sayings were begun -/
def doneI (l : Int) (r : RV × Stt) : Int := l - (lefV r.1 r.2).l
def meantD (l : Int) (r : RV × Stt) : PyData := .tuple [.tuple (r.2.said.map PyData.int), endD r.1, .int (doneI l r)]
def spLM (K : PySem.W.Frag) (n : Nat) : Sp := fun vs H Q _ => ∃ b tv ts hs M x t is u l, ∃ (tp : Bool), vs = [tv, .str x, .ref u, .int l] ∧ Kn b H ∧ Dq K b H tv (treeT ts) ∧ ts.length ≤ 100 ∧ TtOk hs M (tOf ts) ∧ tOf ts x = some t ∧ t.1.length = is.length ∧ (∀ i ∈ is, Wth i) ∧ SqB tp K H u (is.map V.int) ∧ 0 ≤ l ∧ l ≤ 100 ∧ (begun (tOf ts) n t is ⟨l, []⟩).1 ≠ .s ∧
  ∀ v H', Ex H H' → Dq K b H' v (meantD l (begun (tOf ts) n t is ⟨l, []⟩)) → Q v H'
section
variable {P : Program} {w : World} {K : PySem.W.Frag} {mg : Str → Option Value} {base : Heap} {f g : Addr} {fd gd : FuncData}
theorem ok_lm (n k : Nat) (h200 : 200 ≤ k) (Dm : Def K mg "_law_meant" s_lm PLm f fd) (De : Def K mg "_law_entered" s_le PLe g gd) (Ge : FnOk P w K mg base CX0 k g gd PLe (spLE K k n)) (B : Blt mg) :
    FnOk P w K mg base CX0 (k + 1) f fd PLm (spLM K n) := by
  refine Dm.F.ok sc_lm (fun vs H Q E ⟨b, tv, ts, hs, M, x, t, is, u, l, tp, e, _⟩ => by rw [e]; rfl) (fun cdv A outer sh H vs Q E hr h => ?_)
  obtain ⟨b, tv, ts, hs, MM, x, t, is, u, l, tp, rfl, kn, htv, hts, hT, et, el, wi, hsq, l0, l100, hne, q⟩ := h
  refine ⟨_, pss_cons (ps_set (i := 4) sc_lm.nd rfl (Or.inl rfl) pe_dnewK)
    (pss_cons (ps_for PassesOwn.never rfl (pi_tup (pv 0)) (pg_tup rfl (pgs_cons (pg_name (i := 5) sc_lm.nd rfl (Or.inl rfl)) (pgs_cons (pg_name (i := 6) sc_lm.nd rfl (Or.inl rfl)) (pgs_cons (pg_name (i := 7) sc_lm.nd rfl (Or.inl rfl)) pgs_nil)))) (pss_one (ps_dput (hu1 hr) (pv 4) (pv 5) (pe_tupF (pa_cons (pv 6) (pa_cons (pv 7) pa_nil))) rfl)))
    (pss_cons (ps_set (i := 8) sc_lm.nd rfl (Or.inl rfl) (pe_disp (pps_cons pe_str (pv 4) (pps_cons pe_str (pv 3) (pps_cons pe_str (pe_lst pa_nil) (pps_cons pe_str pe_int pps_nil)))) rfl rfl (by intro z; cases z) (by decide)))
    (pss_cons (ps_set (i := 9) sc_lm.nd rfl (Or.inl rfl) (pe_cd De Ge hr (pa_cons (pv 8) (pa_cons (pv 1) (pa_cons (pv 2) pa_nil)))))
    (pss_one (ps_ret (pe_tupF (pa_cons (pe_callTy call_tupF rfl B.tuple bt_tuple (pa_cons (pe_dget (hu1 hr) (pv 8) pe_str (fun _ _ => rfl)) pa_nil)) (pa_cons (pv 9) (pa_cons (pe_op op_sub (pv 3) (pe_dget (hu1 hr) (pv 8) pe_str (fun _ _ => rfl))) pa_nil))))))))), ?_⟩
  have hsl : sizeLine = 16777216 := sizeLine_eq
  refine g_dnew fun D hD => ?_
  have hDb : D ∉ b := kn.new hD
  have xD := Ex.new (o := HO.dK []) hD
  have hD0 : (upd H D (.dK [])) D = some (.dK []) := upd_same
  generalize upd H D (.dK []) = H0 at xD hD0
  have htv0 : Dq K (D :: b) H0 tv (treeT ts) := dp_ex (hid_ex xD) _ _ (Dq.hide htv hD)
  show tSeq _ _ _ [some tv, some (.str x), some (.ref u), some (.int l), some (.ref D), none, none, none, none, none] H0
  cases htv0 with
  | @tup at_ ys _ g1 gn g2 =>
  have ly := dps_len g2
  rw [List.length_map] at ly
  refine ⟨.ref at_, rfl, at_, rfl, ⟨ys, ex_t hid_le g1⟩, ?_⟩
  refine for_tup (xs := ys) (Pv := fun i σ' H' => (∃ y5 y6 y7, σ' = [some (.ref at_), some (.str x), some (.ref u), some (.int l), some (.ref D), y5, y6, y7, none, none]) ∧ (∀ c o, c ≠ D → H0 c = some o → H' c = some o) ∧ ∃ kvs, H' D = some (.dK kvs) ∧ kvs.length ≤ i ∧ ∀ x t, tOf (ts.take i) x = some t → ∃ a, valV kvs (Sum.inr x) = some (.ref a) ∧ Dq K (D :: b) H' (.ref a) (.tuple [.tuple (t.1.map PyData.str), .tuple t.2])) ?_ ?_ ?_ ?_
  · exact ⟨⟨none, none, none, rfl⟩, fun c o _ z => z, [], hD0, Nat.le_refl _, fun x t h => by rw [List.take_zero] at h; cases h⟩
  · rintro i σ' H' _ ⟨_, x', _⟩
    have hx : Ex (hid (D :: b) H0) (hid (D :: b) H') := fun c o z => by
      obtain ⟨z1, z2⟩ := hid_some z
      rw [hid_ne z1]
      exact x' c o (fun e => z1 (by rw [e]; exact List.mem_cons_self)) z2
    exact ex_t (fun c o z => hid_le _ _ (hx _ _ z)) g1
  · rintro i v σ' H1 hv ⟨⟨y5, y6, y7, rfl⟩, x1, kvs, hk1, lk1, vk1⟩
    obtain ⟨d, hd, dd⟩ := dps_at g2 hv
    rw [List.getElem?_map] at hd
    cases hz : ts[i]? with
    | none => rw [hz] at hd; cases hd
    | some e =>
    rw [hz] at hd
    have ed : Tup' e = d := Option.some.inj hd
    subst ed
    obtain ⟨hil, eei⟩ := List.getElem?_eq_some_iff.mp hz
    have hx : Ex (hid (D :: b) H0) (hid (D :: b) H1) := fun c o z => by
      obtain ⟨z1, z2⟩ := hid_some z
      rw [hid_ne z1]
      exact x1 c o (fun e => z1 (by rw [e]; exact List.mem_cons_self)) z2
    have dd' : Dq K (D :: b) H1 v (.tuple [.str e.1, .tuple (e.2.1.map PyData.str), .tuple e.2.2]) := dp_ex hx _ _ dd
    cases dd' with
    | @tup a3 zs _ k1 kn1 k2 =>
    cases k2 with
    | @cons v1 _ _ _ o1 k2 =>
    cases k2 with
    | @cons v2 _ _ _ o2 k2 =>
    cases k2 with
    | @cons v3 _ _ _ o3 k2 =>
    cases k2
    cases o1
    refine ⟨a3, [.str e.1, v2, v3], rfl, ex_t hid_le k1, rfl, _, _, rfl, _, _, rfl, _, _, rfl, rfl, ?_⟩
    refine ⟨v2, rfl, v3, rfl, by rw [hsl]; show 2 ≤ 16777216; decide, fun tt o hnt ho => ?_⟩
    have x4 := Ex.new (o := HO.frz o (.tup [v2, v3])) hnt
    have hD4 := x4 _ _ hk1
    have lput := length_putK kvs (Sum.inr e.1) (.ref tt)
    have il : i < 100 := by omega
    have knD : Kn (D :: b) H1 := fun c hc => by
      rcases List.mem_cons.mp hc with rfl | hc
      · rw [hk1]; intro z; cases z
      · intro z
        cases y : H0 c with
        | none => exact (kn.up xD) c hc y
        | some o => rw [x1 c o (fun e => hDb (by rw [← e]; exact hc)) y] at z; cases z
    have new0 : Dq K (D :: b) _ (.ref tt) (.tuple [.tuple (e.2.1.map PyData.str), .tuple e.2.2]) := dq_newT (o := o) (vs := [v2, v3]) (H := H1) (p := tt) (b := D :: b) knD hnt ho (.cons o2 (.cons o3 .nil))
    refine ⟨.ref D, rfl, .str e.1, rfl, D, _, rfl, .inl ⟨kvs, Sum.inr e.1, hD4, rfl, by rw [hsl]; omega, rfl⟩, ⟨_, _, _, rfl⟩, fun c o cD z => ?_, _, upd_same, by omega, fun x t' h => ?_⟩
    · rw [upd_ne cD]
      exact x4 _ _ (x1 c o cD z)
    · rw [List.take_succ, hz, Option.toList_some, tOf_snoc] at h
      rw [valV_put]
      by_cases ex : x = e.1
      · rw [if_pos ex] at h
        cases h
        rw [if_pos (by rw [ex])]
        exact ⟨tt, rfl, dp_ex put_ex _ _ new0⟩
      · rw [if_neg ex] at h
        rw [if_neg (fun z => ex (by injection z))]
        obtain ⟨a, e1, e2⟩ := vk1 x t' h
        exact ⟨a, e1, dp_ex put_ex _ _ (Dq.up e2 x4)⟩
  · rintro σ' H1 ⟨⟨y5, y6, y7, rfl⟩, x1, kvs, hD1, lk1, vk1⟩
    rw [ly, List.take_length] at vk1
    have x01 : Ex H H1 := fun c o z => x1 c o (fun e => by rw [e, hD] at z; cases z) (xD c o z)
    have kn1 := kn.up x01
    refine fun p hp => ⟨.ref D, rfl, .int l, rfl, Nat.zero_le _, fun sp hsp => ?_⟩
    have psp : p ≠ sp := fun e => by rw [← e, upd_same] at hsp; cases hsp
    have hsp1 : H1 sp = none := by rw [upd_ne (Ne.symm psp)] at hsp; exact hsp
    have Dp : D ≠ p := fun e => by rw [← e, hD1] at hp; cases hp
    have Dsp : D ≠ sp := fun e => by rw [← e, hD1] at hsp1; cases hsp1
    refine ⟨by rw [upd_ne psp]; exact upd_same, rD D sp l 0, rfl, by show 4 ≤ 15; decide, ?_⟩
    have em : mergeK [] (rD D sp l 0) = rD D sp l 0 := rfl
    rw [em]
    have x13 : Ex H1 (upd (upd (upd H1 p (.dK [])) sp (.lst [])) p (.dK (rD D sp l 0))) := fun c o z => by
      have c1 : c ≠ p := fun e => by rw [e, hp] at z; cases z
      have c2 : c ≠ sp := fun e => by rw [e, hsp1] at z; cases z
      rw [upd_ne c1, upd_ne c2, upd_ne c1]
      exact z
    have t3 : Lr p D sp ⟨l, []⟩ 0 (upd (upd (upd H1 p (.dK [])) sp (.lst [])) p (.dK (rD D sp l 0))) := ⟨upd_same, by rw [upd_ne (Ne.symm psp)]; exact upd_same⟩
    generalize upd (upd (upd H1 p (.dK [])) sp (.lst [])) p (.dK (rD D sp l 0)) = H3 at x13 t3
    have x03 := x01.trans x13
    have kn3 : Kn (sp :: p :: b) H3 := fun c hc => by
      rcases List.mem_cons.mp hc with rfl | hc
      · exact t3.nn _ (List.mem_cons_of_mem _ List.mem_cons_self)
      · rcases List.mem_cons.mp hc with rfl | hc
        · exact t3.nn _ List.mem_cons_self
        · exact kn.up x03 c hc
    have te : Lw K (sp :: p :: b) p D sp hs MM (tOf ts) ⟨l, []⟩ 0 H3 := ⟨kn3, List.mem_cons_of_mem _ List.mem_cons_self, List.mem_cons_self, t3, fun m => by
      rcases List.mem_cons.mp m with m | m
      · exact Dsp m
      · rcases List.mem_cons.mp m with m | m
        · exact Dp m
        · exact hDb m, ⟨kvs, x13 _ _ hD1, fun x t h => by
      obtain ⟨a, e1, e2⟩ := vk1 x t h
      exact ⟨a, e1, dp_ex (hid_ex x13) _ _ (Dq.hide (D := sp) (Dq.hide (D := p) (dp_ex show_ex _ _ e2) hp) hsp1)⟩⟩, hT, ⟨l0, by show ((0 : Nat) : Int) + l ≤ 100; omega, fun i m => nomatch m⟩⟩
    refine gas ?_
    have ecf : callF (tOf ts) (sem (tOf ts) n) 0 x is ⟨l, []⟩ = begun (tOf ts) n t is ⟨l, []⟩ := by
      unfold callF
      rw [if_neg (by decide), et]
      rfl
    refine ⟨.ref p, rfl, .str x, rfl, .ref u, rfl, sp :: p :: b, p, D, sp, hs, MM, tOf ts, ⟨l, []⟩, x, t, is, u, tp, 0, rfl, (by omega), te, et, el, wi, sqB_up x03 hsq, ?_⟩
    rw [ecf]
    refine ⟨hne, fun ve H4 x4 t4 hve => gas ?_⟩
    have xx4 : Ex H H4 := fun c o z => x4 c o (fun m => by
      rcases List.mem_cons.mp m with rfl | m
      · rw [x01 _ _ z] at hp; cases hp
      · rw [List.mem_singleton.mp m] at z; rw [x01 _ _ z] at hsp1; cases hsp1) (x03 _ _ z)
    have hve : Dq K (sp :: p :: b) H4 ve (endD (begun (tOf ts) n t is ⟨l, []⟩).1) := hve
    have kn4 : Kn b H4 := kn.up xx4
    have hsd : (lefV (begun (tOf ts) n t is ⟨l, []⟩).1 (begun (tOf ts) n t is ⟨l, []⟩).2).said = (begun (tOf ts) n t is ⟨l, []⟩).2.said := by
      cases (begun (tOf ts) n t is ⟨l, []⟩).1 <;> rfl
    refine ⟨.ref p, rfl, p, _, rfl, dg_said t4.ins, sp, _, rfl, .inl (.inl t4.spk), fun lt o hlt ho => ?_⟩
    have x5 := Ex.new (o := HO.frz o (.tup ((lefV (begun (tOf ts) n t is ⟨l, []⟩).1 (begun (tOf ts) n t is ⟨l, []⟩).2).said.map V.int))) hlt
    refine ⟨ve, rfl, .int l, rfl, .ref p, rfl, p, _, rfl, dg_left (x5 _ _ t4.ins), l, _, rfl, rfl, by rw [hsl]; show 3 ≤ 16777216; decide, fun lt2 o2 hlt2 ho2 => ?_⟩
    have x6 := Ex.new (o := HO.frz o2 (.tup [.ref lt, ve, .int (l - (lefV (begun (tOf ts) n t is ⟨l, []⟩).1 (begun (tOf ts) n t is ⟨l, []⟩).2).l)])) hlt2
    have dl := dq_newT (K := K) kn4 hlt ho (ints_dd (lefV (begun (tOf ts) n t is ⟨l, []⟩).1 (begun (tOf ts) n t is ⟨l, []⟩).2).said)
    rw [hsd] at dl
    rw [hsd] at x5 hlt2 x6 ⊢
    exact q _ _ ((xx4.trans x5).trans x6) (dq_newT (kn4.up x5) hlt2 ho2 (.cons dl (.cons (Dq.up (dp_ex show_ex _ _ (dp_ex show_ex _ _ hve)) x5) (.cons (.int _) .nil))))
end
end Wr

set_option Elab.async false
set_option linter.all false
set_option maxRecDepth 100000
set_option maxHeartbeats 4000000
namespace Wr
open PySem PySem.Spec PyProof.Rows L2 Evl
def wnT : List (Nat × Nat) := [(3, 2), (2, 3), (2, 2), (2, 4), (4, 1)]
/-! ### how long trees are when shown -/
def moreW : List Str := ["name", "call", "if", "while", "try", "set", "put", "get", "go", "done", "back"]
def allW : List Str := (opsW ++ nxyzW) ++ (oneW ++ treeNames) ++ moreW
theorem shW {x : Str} (h : x ∈ allW) : (reprText x).length ≤ 10 := by
  have q : (allW.all fun x => decide ((reprText x).length ≤ 10)) = true := by decide +kernel
  exact of_decide_eq_true (List.all_eq_true.mp q x h)
theorem sh_str' (x : Str) : (PyData.str x).shown = reprText x := by simp only [PyData.shown]
theorem sh_tup1 {c : PyData} {m : Nat} (h : c.shown.length ≤ m) : (PyData.tuple [c]).shown.length ≤ m + 5 := by
  have := tupleText_len_le (PyData.shownAll [c])
  simp only [PyData.shown, PyData.shownAll, List.map_cons, List.map_nil, List.sum_cons, List.sum_nil, List.length_cons, List.length_nil] at this ⊢
  omega
theorem sh_tup2 {c d : PyData} : (PyData.tuple [c, d]).shown.length ≤ c.shown.length + d.shown.length + 7 := by
  have := tupleText_len_le (PyData.shownAll [c, d])
  simp only [PyData.shown, PyData.shownAll, List.map_cons, List.map_nil, List.sum_cons, List.sum_nil, List.length_cons, List.length_nil] at this ⊢
  omega
theorem sh_tup3 {c d e : PyData} : (PyData.tuple [c, d, e]).shown.length ≤ c.shown.length + d.shown.length + e.shown.length + 9 := by
  have := tupleText_len_le (PyData.shownAll [c, d, e])
  simp only [PyData.shown, PyData.shownAll, List.map_cons, List.map_nil, List.sum_cons, List.sum_nil, List.length_cons, List.length_nil] at this ⊢
  omega
theorem sh_tup4 {c d e f : PyData} : (PyData.tuple [c, d, e, f]).shown.length ≤ c.shown.length + d.shown.length + e.shown.length + f.shown.length + 11 := by
  have := tupleText_len_le (PyData.shownAll [c, d, e, f])
  simp only [PyData.shown, PyData.shownAll, List.map_cons, List.map_nil, List.sum_cons, List.sum_nil, List.length_cons, List.length_nil] at this ⊢
  omega
theorem shAll_le {m : Nat} : ∀ {ds : List PyData}, (∀ d ∈ ds, d.shown.length ≤ m) → ((PyData.shownAll ds).map (·.length)).sum ≤ ds.length * m ∧ (PyData.shownAll ds).length = ds.length
  | [], _ => by simp [PyData.shownAll]
  | d :: ds, h => by
    have h1 := h d List.mem_cons_self
    have ⟨h2, h3⟩ := shAll_le (ds := ds) fun e he => h e (List.mem_cons_of_mem _ he)
    simp only [PyData.shownAll, List.map_cons, List.sum_cons, List.length_cons, h3, Nat.add_mul, Nat.one_mul]
    exact ⟨by omega, trivial⟩
theorem sh_tupN {m : Nat} {ds : List PyData} (h : ∀ d ∈ ds, d.shown.length ≤ m) : (PyData.tuple ds).shown.length ≤ ds.length * (m + 2) + 3 := by
  have q := tupleText_len_le (PyData.shownAll ds)
  obtain ⟨h1, h2⟩ := shAll_le h
  simp only [PyData.shown]
  rw [h2] at q
  rw [Nat.mul_add]
  omega
theorem sh_worth {d : PyData} (h : worthD d = true) : d.shown.length ≤ 14 := by
  unfold worthD at h
  split at h
  · rename_i i
    rw [Bool.and_eq_true] at h
    have h1 := of_decide_eq_true h.1
    have h2 := of_decide_eq_true h.2
    have hb : i.natAbs < 10 ^ 13 := Nat.lt_of_le_of_lt (show i.natAbs ≤ 1000000000000 by omega) (by decide)
    have := int_text_length_le10 (k := 13) (by decide) hb
    simp only [PyData.shown]
    rw [PySem.ofString_length]
    exact this
  · cases h
def vSh : Nat → Nat
  | 0 => 0
  | n + 1 => 3 * vSh n + 38
theorem mem_allW {x : Str} (h : x ∈ opsW ∨ x ∈ nxyzW ∨ x ∈ oneW ∨ x ∈ treeNames) : x ∈ allW := by
  unfold allW
  rcases h with h | h | h | h
  · exact List.mem_append_left _ (List.mem_append_left _ (List.mem_append_left _ h))
  · exact List.mem_append_left _ (List.mem_append_left _ (List.mem_append_right _ h))
  · exact List.mem_append_left _ (List.mem_append_right _ (List.mem_append_left _ h))
  · exact List.mem_append_left _ (List.mem_append_right _ (List.mem_append_right _ h))
theorem ValP.sh {hs : Hds} (C : HdC hs) (hn : ∀ p ∈ hs, p.1 ∈ treeNames) {n : Nat} {d : PyData} (h : ValP hs n d) : d.shown.length ≤ vSh n := by
  induction h with
  | num p =>
    have := sh_worth p
    unfold vSh
    omega
  | @name n x p =>
    have h1 := shW (x := "name") (by decide +kernel)
    have h2 := shW (mem_allW (.inr (.inl p)))
    have := sh_tup2 (c := .str "name") (d := .str x)
    rw [sh_str', sh_str'] at this
    unfold vSh
    omega
  | @op n o c e p _ _ i1 i2 =>
    have h1 := shW (mem_allW (.inl p))
    have := sh_tup3 (c := .str o) (d := c) (e := e)
    rw [sh_str'] at this
    unfold vSh
    omega
  | @call n x ds p _ ih =>
    have h1 := shW (x := "call") (by decide +kernel)
    have h2 := shW (mem_allW (.inr (.inr (.inr (hn _ p)))))
    have h3 : ds.length ≤ 3 := C.le _ p
    have h4 := sh_tupN ih
    have h5 : ds.length * (vSh n + 2) ≤ 3 * (vSh n + 2) := Nat.mul_le_mul_right _ h3
    have := sh_tup3 (c := .str "call") (d := .str x) (e := .tuple ds)
    rw [sh_str', sh_str'] at this
    unfold vSh
    have h2' : (reprText x).length ≤ 10 := h2
    omega
def sSh (w : Nat) : Nat → Nat
  | 0 => 0
  | n + 1 => 12 * sSh w n + vSh w + 90
theorem sh_says {m : Nat} {ss : List PyData} (l6 : ss.length ≤ 6) (h : ∀ s ∈ ss, s.shown.length ≤ m) : (PyData.tuple ss).shown.length ≤ 6 * m + 15 := by
  have h1 := sh_tupN h
  have h2 : ss.length * (m + 2) ≤ 6 * (m + 2) := Nat.mul_le_mul_right _ l6
  omega
theorem SayP.sh {hs : Hds} (C : HdC hs) (hn : ∀ p ∈ hs, p.1 ∈ treeNames) {w n : Nat} {d : PyData} (h : SayP hs w n d) : d.shown.length ≤ sSh w n := by
  induction h with
  | @set n x v p q =>
    have h1 := shW (x := "set") (by decide +kernel)
    have h2 := shW (mem_allW (.inr (.inl p)))
    have h3 := q.sh C hn
    have := sh_tup3 (c := .str "set") (d := .str x) (e := v)
    rw [sh_str', sh_str'] at this
    unfold sSh
    omega
  | @one n o v p q =>
    have h2 := shW (mem_allW (.inr (.inr (.inl p))))
    have h3 := q.sh C hn
    have := sh_tup2 (c := .str o) (d := v)
    rw [sh_str'] at this
    unfold sSh
    omega
  | @ite n v ss ts q l1 _ l2 _ i1 i2 =>
    have h1 := shW (x := "if") (by decide +kernel)
    have h3 := q.sh C hn
    have h4 := sh_says l1 i1
    have h5 := sh_says l2 i2
    have := sh_tup4 (c := .str "if") (d := v) (e := .tuple ss) (f := .tuple ts)
    rw [sh_str'] at this
    unfold sSh
    omega
  | @whl n v ss q l1 _ i1 =>
    have h1 := shW (x := "while") (by decide +kernel)
    have h3 := q.sh C hn
    have h4 := sh_says l1 i1
    have := sh_tup3 (c := .str "while") (d := v) (e := .tuple ss)
    rw [sh_str'] at this
    unfold sSh
    omega
  | @tr n x ss ts p l1 _ l2 _ i1 i2 =>
    have h1 := shW (x := "try") (by decide +kernel)
    have h2 := shW (mem_allW (.inr (.inl p)))
    have h4 := sh_says l1 i1
    have h5 := sh_says l2 i2
    have := sh_tup4 (c := .str "try") (d := .tuple ss) (e := .str x) (f := .tuple ts)
    rw [sh_str', sh_str'] at this
    unfold sSh
    omega
theorem sSh_le {w n : Nat} (h : (w, n) ∈ wnT) : sSh w n ≤ 460000 := by
  have q : (wnT.all fun p => decide (sSh p.1 p.2 ≤ 460000)) = true := by decide +kernel
  exact of_decide_eq_true (List.all_eq_true.mp q (w, n) h)
theorem argN_sh {k : Nat} : (PyData.tuple (argN k)).shown.length ≤ 39 := by
  have h : ∀ d ∈ argN k, d.shown.length ≤ 10 := fun d hd => by
    obtain ⟨x, hx, rfl⟩ := List.mem_map.mp hd
    rw [sh_str']
    have hx' : x ∈ argW := List.mem_of_mem_take hx
    have q : (argW.all fun x => decide ((reprText x).length ≤ 10)) = true := by decide +kernel
    exact of_decide_eq_true (List.all_eq_true.mp q x hx')
  have h1 := sh_tupN h
  have h2 : (argN k).length ≤ 3 := by
    unfold argN
    rw [List.length_map, List.length_take]
    show min k 3 ≤ 3
    omega
  have h3 : (argN k).length * (10 + 2) ≤ 3 * (10 + 2) := Nat.mul_le_mul_right _ h2
  omega
/-! ### trees, tuple by tuple -/
structure TpOk (hs : Hds) (e : Tup) : Prop where
  nm : e.1 ∈ treeNames
  k3 : e.2.1.length ≤ 3
  ns : ∃ k, e.2.1 = argW.take k
  l6 : e.2.2.length ≤ 6
  ss : ∃ w n, (w, n) ∈ wnT ∧ ∀ s ∈ e.2.2, SayP hs w n s
structure TreV (hs : Hds) (ts : List Tup) : Prop where
  C : HdC hs
  hd : hs = ts.map fun e => (e.1, e.2.1.length)
  ok : ∀ e ∈ ts, TpOk hs e
theorem tup_list {hs : Hds} (C : HdC hs) (hn : ∀ p ∈ hs, p.1 ∈ treeNames) : ∀ {ds : List PyData} {qs : Hds}, (∀ p ∈ qs, p ∈ hs) → ds.length = qs.length → (∀ (i : Nat) x p, ds[i]? = some x → qs[i]? = some p → TupP hs p x) → ∃ ts : List Tup, ds = ts.map Tup' ∧ qs = (ts.map fun e => (e.1, e.2.1.length)) ∧ ∀ e ∈ ts, TpOk hs e
  | [], [], _, _, _ => ⟨[], rfl, rfl, fun t h => nomatch h⟩
  | [], _ :: _, _, h, _ => by cases h
  | _ :: _, [], _, h, _ => by cases h
  | x :: ds, p :: qs, hq, hl, hR => by
    obtain ⟨ss, dw, hdw, rfl, _, l6, hss⟩ := hR 0 x p rfl rfl
    obtain ⟨ts, e, el, ht⟩ := tup_list C hn (ds := ds) (qs := qs) (fun p' h' => hq p' (List.mem_cons_of_mem _ h')) (by simpa using hl) fun i x' p' h1 h2 => hR (i + 1) x' p' h1 h2
    have dwn : (max dw.2 2, dw.1) ∈ wnT := by
      have q' : (dwT.all fun dw => decide ((max dw.2 2, dw.1) ∈ wnT)) = true := by decide
      exact of_decide_eq_true (List.all_eq_true.mp q' dw hdw)
    have hp := hq p List.mem_cons_self
    have k3 := C.le p hp
    have lk : (argW.take p.2).length = p.2 := by
      rw [List.length_take]
      show min p.2 3 = p.2
      omega
    refine ⟨(p.1, argW.take p.2, ss) :: ts, by rw [e]; rfl, ?_, fun t h => ?_⟩
    · rw [List.map_cons, el]
      show p :: _ = (p.1, (argW.take p.2).length) :: _
      rw [lk]
    · rcases List.mem_cons.mp h with rfl | h
      · exact ⟨hn p hp, by show (argW.take p.2).length ≤ 3; omega, ⟨p.2, rfl⟩, l6, _, _, dwn, hss⟩
      · exact ht t h
theorem tree_view {d : PyData} (h : TreeP d) : ∃ hs ts, d = treeT ts ∧ TreV hs ts ∧ ts ≠ [] ∧ ts.length ≤ 6 ∧ ∀ p ∈ hs, p.1 ∈ treeNames := by
  obtain ⟨hs, C, hn, ds, rfl, hl, hR⟩ := h
  obtain ⟨ts, e, el, ht⟩ := tup_list C hn (fun p h => h) hl hR
  have l6 := C.l6
  have ll : hs.length = ts.length := by rw [el, List.length_map]
  refine ⟨hs, ts, by rw [e]; rfl, ⟨C, el, ht⟩, fun e0 => ?_, by omega, hn⟩
  rw [e0] at ll
  exact C.l0 (List.length_eq_zero_iff.mp ll)
theorem tof_none : ∀ {ts : List Tup} {T : Tt} {y : Str}, y ∉ ts.map (·.1) → ts.foldl (fun T e => fun y => if y = e.1 then some e.2 else T y) T y = T y
  | [], T, y, _ => rfl
  | e :: ts, T, y, h => by
    rw [List.map_cons] at h
    rw [List.foldl_cons, tof_none fun m => h (List.mem_cons_of_mem _ m)]
    exact if_neg fun e' => h (by rw [e']; exact List.mem_cons_self)
theorem tof_mem : ∀ {ts : List Tup} {T : Tt} {e : Tup}, (ts.map (·.1)).Nodup → e ∈ ts → ts.foldl (fun T e => fun y => if y = e.1 then some e.2 else T y) T e.1 = some e.2
  | [], T, e, _, h => nomatch h
  | x :: ts, T, e, nd, h => by
    rw [List.map_cons] at nd
    have nd' := List.nodup_cons.mp nd
    rw [List.foldl_cons]
    rcases List.mem_cons.mp h with rfl | h
    · rw [tof_none nd'.1]
      exact if_pos rfl
    · exact tof_mem nd'.2 h
theorem tof_some : ∀ {ts : List Tup} {T : Tt} {y : Str} {t : List Str × List PyData}, ts.foldl (fun T e => fun y => if y = e.1 then some e.2 else T y) T y = some t → (∃ e ∈ ts, e.1 = y ∧ e.2 = t) ∨ T y = some t
  | [], T, y, t, h => .inr h
  | x :: ts, T, y, t, h => by
    rw [List.foldl_cons] at h
    rcases tof_some h with ⟨e, he, h1⟩ | h
    · exact .inl ⟨e, List.mem_cons_of_mem _ he, h1⟩
    · by_cases c : y = x.1
      · rw [if_pos c] at h
        exact .inl ⟨x, List.mem_cons_self, c.symm, Option.some.inj h⟩
      · rw [if_neg c] at h
        exact .inr h
theorem worthD_w {d : PyData} (h : worthD d = true) : ∃ i, d = .int i ∧ Wth i := by
  unfold worthD at h
  split at h
  · rename_i i
    rw [Bool.and_eq_true] at h
    exact ⟨i, rfl, of_decide_eq_true h.1, of_decide_eq_true h.2⟩
  · cases h
theorem ValP.va {hs : Hds} (C : HdC hs) {n : Nat} {d : PyData} (h : ValP hs n d) : VaP hs n d := by
  induction h with
  | num p =>
    obtain ⟨i, rfl, hi⟩ := worthD_w p
    exact .num hi
  | name p => exact .name (nxyz_ok p).1
  | op p _ _ i1 i2 => exact .op p i1 i2
  | call p _ ih => exact .call p (C.nm _ p).2 ih
theorem SayP.sa {hs : Hds} (C : HdC hs) {w n : Nat} {d : PyData} (h : SayP hs w n d) : SaP hs w n d := by
  induction h with
  | set p q => exact .set (nxyz_ok p).1 (q.va C)
  | one p q => exact .one p (q.va C)
  | ite q _ _ _ _ i1 i2 => exact .ite (q.va C) i1 i2
  | whl q _ _ i1 => exact .whl (q.va C) i1
  | tr p _ _ _ _ i1 i2 => exact .tri (nxyz_ok p).1 i1 i2
theorem argW_ok {k : Nat} : ((argW.take k).all PyData.strOk) = true := List.all_eq_true.mpr fun x hx => by
  have q : (argW.all PyData.strOk) = true := by decide +kernel
  exact List.all_eq_true.mp q x (List.mem_of_mem_take hx)
section
variable {hs : Hds} {ts : List Tup}
theorem TreV.nd (T : TreV hs ts) : (ts.map (·.1)).Nodup := by
  have := T.C.nd
  rw [T.hd, List.map_map] at this
  exact this
theorem TreV.at (T : TreV hs ts) {e : Tup} (h : e ∈ ts) : tOf ts e.1 = some e.2 := tof_mem T.nd h
theorem TreV.tt (T : TreV hs ts) : TtOk hs 6 (tOf ts) := by
  refine ⟨fun x k hx => ?_, fun p hp => ?_, fun x t ht => ?_⟩
  · rw [T.hd] at hx
    obtain ⟨e, he, ee⟩ := List.mem_map.mp hx
    injection ee with e1 e2
    subst e1 e2
    exact ⟨e.2, T.at he, rfl⟩
  · have := T.C.le p hp
    omega
  · rcases tof_some ht with ⟨e, he, _, rfl⟩ | h
    · have ok := T.ok e he
      obtain ⟨k, hk⟩ := ok.ns
      obtain ⟨w, n, hwn, hss⟩ := ok.ss
      have q : (wnT.all fun p => decide (p.1 + p.2 ≤ 6 ∧ p.1 + 3 * p.2 ≤ 14)) = true := by decide
      refine ⟨by have := ok.k3; omega, by rw [hk]; exact argW_ok, w, n, of_decide_eq_true (List.all_eq_true.mp q (w, n) hwn), fun s hs' => (hss s hs').sa T.C⟩
    · cases h
theorem TreV.sh (T : TreV hs ts) (hn : ∀ p ∈ hs, p.1 ∈ treeNames) (l6 : ts.length ≤ 6) : (treeT ts).shown.length ≤ 16700000 := by
  have h : ∀ d ∈ ts.map Tup', d.shown.length ≤ 2760100 := fun d hd => by
    obtain ⟨e, he, rfl⟩ := List.mem_map.mp hd
    have ok := T.ok e he
    obtain ⟨k, hk⟩ := ok.ns
    obtain ⟨w, n, hwn, hss⟩ := ok.ss
    have h1 := shW (mem_allW (.inr (.inr (.inr ok.nm))))
    have h2 := argN_sh (k := k)
    have h3 := sh_says ok.l6 fun s hs' => (hss s hs').sh T.C hn
    have h4 := sSh_le hwn
    have := sh_tup3 (c := .str e.1) (d := .tuple (argN k)) (e := .tuple e.2.2)
    rw [sh_str'] at this
    unfold Tup'
    rw [hk]
    show (PyData.tuple [.str e.1, .tuple (argN k), .tuple e.2.2]).shown.length ≤ _
    omega
  have h1 := sh_tupN h
  rw [List.length_map] at h1
  have h2 : ts.length * (2760100 + 2) ≤ 6 * (2760100 + 2) := Nat.mul_le_mul_right _ l6
  show (PyData.tuple (ts.map Tup')).shown.length ≤ _
  omega
theorem TreV.okD (T : TreV hs ts) (l6 : ts.length ≤ 6) : okD 30 (treeT ts) = true := by
  refine ok_up (n := 16) (okL_ok (L := 6) (by decide) _ _ (okL_tup (n := 15) (by rw [List.length_map]; exact l6) fun d hd => ?_)) (by decide)
  obtain ⟨e, he, rfl⟩ := List.mem_map.mp hd
  have ok := T.ok e he
  obtain ⟨k, hk⟩ := ok.ns
  obtain ⟨w, n, hwn, hss⟩ := ok.ss
  have q : (wnT.all fun p => decide (p.1 + p.2 ≤ 6)) = true := by decide
  have q6 : w + n ≤ 6 := of_decide_eq_true (List.all_eq_true.mp q (w, n) hwn)
  have hn := tn_ok ok.nm
  refine okL_tup (n := 14) (by show 3 ≤ 6; decide) (mem3 (okL_w ⟨hn.2, name_len hn.1⟩) (okL_tup (n := 13) (by have := ok.k3; rw [List.length_map]; omega) fun x hx => ?_) (okL_tup (n := 13) ok.l6 fun s hs' => okL_up (Nat.le_refl _) _ _ _ (by omega) ((hss s hs').ok T.C)))
  obtain ⟨y, hy, rfl⟩ := List.mem_map.mp hx
  rw [hk] at hy
  have hy' : y ∈ argW := List.mem_of_mem_take hy
  have q2 : (argW.all fun x => PyData.strOk x && decide (x.length ≤ 8)) = true := by decide +kernel
  exact okL_w (word_ok hy' q2)
/-- what it means comes to an end -/
theorem begun_end {hs : Hds} {T : Tt} (hT : TtOk hs 6 T) {x : Str} {t : List Str × List PyData} {is : List Int} {s : Stt} (ht : T x = some t) (wi : ∀ i ∈ is, Wth i) : (begun T 100 t is s).1 ≠ .s := by
  obtain ⟨_, _, w, n, hM, hss⟩ := hT.ok x t ht
  have := (sem_end hT 100).g 1 (envOf t.1 is) s t.2 w n (by decide) (env_ok wi) hss (by omega)
  exact out_end this
end
end Wr

set_option Elab.async false
set_option linter.all false
set_option maxRecDepth 100000
set_option maxHeartbeats 4000000
namespace Wr
open PySem PySem.Spec PyProof.Rows L2 Evl
section
variable {K : PySem.W.Frag} {b : List Addr} {a : Addr} {n m k : Nat} {σ : L2.St} {H H' : Hp} {ta tb te : TE} {t : TA} {ts : TS} {D : Ends} {d : PyData} {ds : List PyData}
/-- [.. for x in tuple], each item drawn -/
theorem eg_lcTup {i0 c : Nat} {R : PyData → Prop} (ha : a ∈ b) (ht : ∀ H1, ExB a H H1 → Kn b H1 → ED K b ta σ H1 (.tuple ds)) (hl : ds.length ≤ 1000)
    (he : ∀ (D : Addr) (f : Nat) (x : V) (H0 H1 : Hp), ExB a H H0 → H0 D = none → ExB a H0 H1 → EG K (D :: b) a (f + c) f te ((wipe σ [i0]).set i0 (some x)) H1 R) :
    EG K b a (m + ds.length * c) m (tLc (iTup K ta) (gName i0) tYes te [i0]) σ H (fun d => ∃ es, d = .list es ∧ es.length = ds.length ∧ ∀ e ∈ es, R e) := fun H1 x1 kn bg Q q =>
  ht H1 x1 kn H1 (Ex.refl H1) _ fun v H2 x2 hv => by
    cases hv with
    | @tup at_ xs _ g1 _ g2 =>
    have hlen := dps_len g2
    have hsl : sizeLine = 16777216 := sizeLine_eq
    have kn2 := kn.up x2
    have bg2 := bg.ex x2
    refine ⟨at_, rfl, ⟨xs, ex_t hid_le g1⟩, fun Dl hD => ?_⟩
    have hDa : Dl ≠ a := fun z => bg2.there (z ▸ hD)
    have hm : a ∈ Dl :: b := List.mem_cons_of_mem _ ha
    refine lc_it walk_tup (fun i H3 => ExB a H2 H3 ∧ Kn (Dl :: b) H3 ∧ Bag a (m + (ds.length - i) * c) H3 ∧ ∃ acc es, H3 Dl = some (.lst acc) ∧ DqAll K (Dl :: b) H3 acc es ∧ es.length = i ∧ ∀ e ∈ es, R e) ⟨exb (Ex.new hD), fun z hz => ?_, ?_, [], [], upd_same, .nil, rfl, fun e h => nomatch h⟩ (fun i H3 _ p => ex_t hid_le (ex_t (hid_exB ha p.1) g1)) ?_ ?_
    · rcases List.mem_cons.mp hz with rfl | hz
      · rw [upd_same]; intro q; cases q
      · rw [upd_ne (fun z' : z = Dl => kn2.new hD (by rw [← z']; exact hz))]
        exact kn2 z hz
    · rw [Nat.sub_zero]
      exact bg2.ex (Ex.new hD)
    · intro i x H3 H3' hi ⟨x3, k3, b3, acc, es, hd3, hacc, hle, hR⟩ ⟨eH, hx⟩
      subst eH
      refine ⟨wipe_set1, et_yes (H := H3') _ (Ex.refl _) _ fun H4 x4 => ?_⟩
      rw [if_pos rfl]
      have eN : ds.length - i = (ds.length - (i + 1)) + 1 := by omega
      have bb : Bag a ((m + (ds.length - (i + 1)) * c) + c) H4 := (b3.ex x4).le (by rw [eN, Nat.add_mul]; omega)
      refine he Dl (m + (ds.length - (i + 1)) * c) x H2 H4 (x1.trans (exb x2)) hD (x3.trans (exb x4)) H4 (ExB.refl a H4) (k3.up x4) bb _ fun y d H5 x5 b5 hy r => ?_
      have hd5 : H5 Dl = some (.lst acc) := x5 _ _ hDa (x4 _ _ hd3)
      refine ⟨acc, hd5, ?_, fun z o hz h => ?_, fun z hz => ?_, ?_, acc ++ [y], es ++ [d], upd_same, ?_, ?_, fun e he' => ?_⟩
      · rw [dps_len hacc]; omega
      · by_cases e : z = Dl
        · subst e; rw [hD] at h; cases h
        · rw [upd_ne e]
          exact x5 _ _ hz (x4 _ _ (x3 _ _ hz h))
      · by_cases e : z = Dl
        · subst e; rw [upd_same]; intro q; cases q
        · rw [upd_ne e]
          exact x5.kn (k3.up x4) b5 z hz
      · obtain ⟨g, x, h1, r'⟩ := b5
        exact ⟨g, x, by rw [upd_ne (Ne.symm hDa)]; exact h1, r'⟩
      · exact dps_ex put_ex _ _ (dps_app (DqAll.upB hm (DqAll.up hacc x4) x5) (.cons hy .nil))
      · rw [List.length_append, hle]; rfl
      · rcases List.mem_append.mp he' with h1 | h1
        · exact hR e h1
        · rw [List.mem_singleton.mp h1]; exact r
    · intro H3 ⟨x3, k3, b3, acc, es, hd3, hacc, hle, hR⟩
      have bm : Bag a m H3 := b3.le (by rw [hlen, Nat.sub_self]; omega)
      refine q _ (.list es) H3 ((exb x2).trans x3) bm (.lst (.inl (.inl ?_)) (dps_ex show_ex _ _ hacc)) ⟨es, rfl, by omega, hR⟩
      rw [hid_ne (kn2.new hD)]
      exact hd3
theorem ed_neS {x : Str} (ha : ED K b ta σ H (.str x)) (hb : ED K b tb σ H (.str x)) : ED K b (tOp rNe ta tb) σ H (.bool false) :=
  ed_op ha hb fun H1 u v Q _ hu hv q => by
    rw [dq_str hu, dq_str hv]
    exact ⟨rfl, by rw [decide_eq_true rfl]; exact q _ H1 (Ex.refl H1) (.bl _)⟩
theorem dps_ints : ∀ {vs : List V} {is : List Int} {H : Hp}, DdAll K H vs (is.map PyData.int) → vs = is.map V.int
  | [], [], _, _ => rfl
  | _ :: _, [], _, h => by cases h
  | [], _ :: _, _, h => by cases h
  | v :: vs, i :: is, H, h => by
    cases h with
    | cons h1 h2 =>
      cases h1
      rw [dps_ints h2]
      rfl
theorem dq_ints {v : V} {is : List Int} (h : Dq K b H v (.tuple (is.map PyData.int))) : ∃ u, v = .ref u ∧ SqT K H u (is.map V.int) := by
  cases h with
  | @tup at0 xs _ g1 gN g2 =>
    have e := dps_ints g2
    subst e
    exact ⟨at0, rfl, ex_t hid_le g1⟩
end
/-! ### repr, by how long it is when shown -/
def rReprL (K : PySem.W.Frag) : List V → Hp → VK → Prop := fun xs H Q => ∃ x d, xs = [x] ∧ Dp K H x d ∧ okD 30 d = true ∧ d.shown.length ≤ 16700000 ∧ Q (.str d.shown) H
theorem call_reprL {X : Cx} (hg : X.A.guards = some []) (hu : X.A.units + 64 < cLine) : CallR X (.builtin "repr") (rReprL X.K) := by
  intro pins s σ H xs us Q I r ⟨x, d, e, hd, ho, hz, q⟩
  subst e
  obtain ⟨u, rfl, rx⟩ := vals1 r
  obtain ⟨f1, f2, f3⟩ := ok_facts 30 d ho
  have hsl : sizeLine = 16777216 := sizeLine_eq
  have hsz : d.shown.length ≤ sizeLine := by
    omega
  obtain ⟨as, rd⟩ := Dp.reads I d x u hd rx
  cases hd with
  | non =>
    cases rx
    simp only [PyData.shown] at q
    exact PySem.P.repr_of_none ⟨.str _, H, I.tok _, ⟨_, rfl⟩, q⟩
  | bl c =>
    cases rx
    simp only [PyData.shown] at q
    refine PySem.P.repr_of_bool ⟨.str _, H, I.tok _, ⟨_, rfl⟩, ?_⟩
    cases c <;> exact q
  | int i =>
    obtain ⟨t, rfl⟩ := rx
    simp only [PyData.shown] at q
    exact PySem.P.repr_of_int (by simpa [PyData.showable] using f3) ⟨.str _, H, I.tok _, ⟨_, rfl⟩, q⟩
  | str y =>
    obtain ⟨t, rfl⟩ := rx
    simp only [PyData.shown] at q hsz
    exact PySem.P.repr_of_str ⟨.str _, H, I.tok _, ⟨_, rfl⟩, q⟩ hsz
  | lst h1 h2 =>
    cases rx
    exact repr_of_reads' rd f3 (PyData.noDict_hsm (PyData.hasDict_of_canLay _ f1)) hg (by omega) (fun _ _ e => e) (fun h' t tk kp => ⟨.str _, H, I.kept (t' := tk) kp, ⟨_, rfl⟩, q⟩) hsz
  | tup h1 h2 =>
    cases rx
    exact repr_of_reads' rd f3 (PyData.noDict_hsm (PyData.hasDict_of_canLay _ f1)) hg (by omega) (fun _ _ e => e) (fun h' t tk kp => ⟨.str _, H, I.kept (t' := tk) kp, ⟨_, rfl⟩, q⟩) hsz
section
variable {K : PySem.W.Frag} {b : List Addr} {σ : L2.St} {H : Hp} {ta : TE} {d : PyData}
theorem ed_reprL (ha : ED K b ta σ H d) (ho : okD 30 d = true) (hz : d.shown.length ≤ 16700000) : ED K b (tCB (rReprL K) (tCons ta tNil)) σ H (.str d.shown) := fun H1 x1 Q q =>
  ha H1 x1 _ fun v H2 x2 hv => ⟨v, d, rfl, Dq.dp hv, ho, hz, q _ H2 x2 (.str _)⟩
end
/-! ### what comes of it fits -/
theorem begun_ok {hs : Hds} {M n : Nat} {T : Tt} (hT : TtOk hs M T) {x : Str} {t : List Str × List PyData} {is : List Int} {l : Int} (ht : T x = some t) (wi : ∀ i ∈ is, Wth i) (l0 : 0 ≤ l) : ((begun T n t is ⟨l, []⟩).2.said.length : Int) ≤ l ∧ (∀ i ∈ (begun T n t is ⟨l, []⟩).2.said, Wth i) ∧ ∀ i, (begun T n t is ⟨l, []⟩).1 = .w i ∨ (begun T n t is ⟨l, []⟩).1 = .f i → Wth i := by
  obtain ⟨_, _, w, m, _, hss⟩ := hT.ok x t ht
  have h := (sem_ok hT n).g 1 (envOf t.1 is) ⟨l, []⟩ t.2 w m (env_ok wi) hss
  have h1 := h.1.len
  have h2 := h.1.nn l0
  refine ⟨?_, h.1.wth (fun i m => nomatch m), fun i e => ?_⟩
  · have e : (([] : List Int).length : Int) = 0 := rfl
    show (((sem T n).g 1 (envOf t.1 is) ⟨l, []⟩ t.2).2.2.said.length : Int) ≤ l
    have h1 : (((sem T n).g 1 (envOf t.1 is) ⟨l, []⟩ t.2).2.2.said.length : Int) + ((sem T n).g 1 (envOf t.1 is) ⟨l, []⟩ t.2).2.2.l ≤ (([] : List Int).length : Int) + l := h1
    have h2 : 0 ≤ ((sem T n).g 1 (envOf t.1 is) ⟨l, []⟩ t.2).2.2.l := h2
    omega
  · have e' : outG ((sem T n).g 1 (envOf t.1 is) ⟨l, []⟩ t.2).1 = .w i ∨ outG ((sem T n).g 1 (envOf t.1 is) ⟨l, []⟩ t.2).1 = .f i := e
    cases r : ((sem T n).g 1 (envOf t.1 is) ⟨l, []⟩ t.2).1 with
    | n => rw [r] at e'; rcases e' with e' | e' <;> cases e'; exact ⟨by decide, by decide⟩
    | b j => rw [r] at e'; rcases e' with e' | e' <;> cases e'; exact h.2.2 _ (.inl r)
    | f j => rw [r] at e'; rcases e' with e' | e' <;> cases e'; exact h.2.2 _ (.inr r)
    | l => rw [r] at e'; rcases e' with e' | e' <;> cases e'
    | s => rw [r] at e'; rcases e' with e' | e' <;> cases e'
def meantP (r : RV × Stt) : PyData := .tuple [.tuple (r.2.said.map PyData.int), endD r.1]
theorem wth_sh {i : Int} (h : Wth i) : (PyData.int i).shown.length ≤ 14 := sh_worth (d := .int i) (by
  show (decide (-1000000000000 ≤ i) && decide (i ≤ 1000000000000)) = true
  rw [decide_eq_true h.1, decide_eq_true h.2]
  rfl)
theorem wth_ok {i : Int} (h : Wth i) {L n : Nat} : okL L n (.int i) = true := okL_int (by
  have h1 := h.1
  have h2 := h.2
  have h3 : (2000000000000 : Nat) < 10 ^ 40 := by decide
  omega)
theorem end_fits {r : RV} (h : ∀ i, r = .w i ∨ r = .f i → Wth i) : (endD r).shown.length ≤ 40 ∧ okL 1000 2 (endD r) = true := by
  have s1 : ∀ {w : Str}, (reprText w).length ≤ 10 → ∀ {i : Int}, Wth i → (PyData.tuple [.str w, .int i]).shown.length ≤ 40 := fun {w} hw {i} hi => by
    have := sh_tup2 (c := .str w) (d := .int i)
    rw [sh_str'] at this
    have := wth_sh hi
    omega
  cases r with
  | w i => exact ⟨s1 (by decide +kernel) (h i (.inl rfl)), okL_tup (n := 1) (by show 2 ≤ 1000; decide) (mem2 (okL_c (by decide +kernel)) (wth_ok (h i (.inl rfl))))⟩
  | f i => exact ⟨s1 (by decide +kernel) (h i (.inr rfl)), okL_tup (n := 1) (by show 2 ≤ 1000; decide) (mem2 (okL_c (by decide +kernel)) (wth_ok (h i (.inr rfl))))⟩
  | l =>
    refine ⟨?_, okL_tup (n := 1) (by decide) fun d hd => by rw [List.mem_singleton.mp hd]; exact okL_c (by decide +kernel)⟩
    have := sh_tup1 (c := .str "long") (m := 10) (by rw [sh_str']; decide +kernel)
    show (PyData.tuple [.str "long"]).shown.length ≤ 40
    omega
  | s => exact ⟨by show (PyData.none).shown.length ≤ 40; decide +kernel, rfl⟩
theorem meant_fits {r : RV × Stt} (h1 : (r.2.said.length : Int) ≤ 100) (h2 : ∀ i ∈ r.2.said, Wth i) (h3 : ∀ i, r.1 = .w i ∨ r.1 = .f i → Wth i) : okD 30 (meantP r) = true ∧ (meantP r).shown.length ≤ 16700000 := by
  obtain ⟨e1, e2⟩ := end_fits h3
  constructor
  · refine ok_up (n := 3) (okL_ok (L := 1000) (by decide) _ _ (okL_tup (n := 2) (by show 2 ≤ 1000; decide) (mem2 (okL_tup (n := 1) (by rw [List.length_map]; omega) fun d hd => ?_) e2))) (by decide)
    obtain ⟨i, hi, rfl⟩ := List.mem_map.mp hd
    exact wth_ok (h2 i hi)
  · have a := sh_tupN (ds := r.2.said.map PyData.int) (m := 14) fun d hd => by
      obtain ⟨i, hi, rfl⟩ := List.mem_map.mp hd
      exact wth_sh (h2 i hi)
    rw [List.length_map] at a
    have c : r.2.said.length * (14 + 2) ≤ 100 * (14 + 2) := Nat.mul_le_mul_right _ (by omega)
    have := sh_tup2 (c := .tuple (r.2.said.map PyData.int)) (d := endD r.1)
    unfold meantP
    omega
/-! ### worths for a tuple's names -/
abbrev PNu : List Str := ["_law_bag_here", "_law_tree_here", "_law_part"]
abbrev NNu : List Str := ["_law_bag_here", "_law_tree_here", "_law_part", "_law_name"]
def spNu (K : PySem.W.Frag) : Sp := fun vs H Q _ => ∃ b a tv, ∃ (ts : List Tup) (j : Nat) (e : Tup), vs = [.ref a, tv, .int (j : Nat)] ∧ a ∈ b ∧ Kn b H ∧ Bag a 0 H ∧ Dq K b H tv (treeT ts) ∧ ts[j]? = some e ∧ e.2.1.length ≤ 10 ∧
  ∀ (v : V) (is : List Int) (H' : Hp), ExB a H H' → Bag a 0 H' → Dq K b H' v (.tuple (is.map PyData.int)) → is.length = e.2.1.length → (∀ i ∈ is, Wth i) → Q v H'
theorem worths_ints : ∀ {es : List PyData}, (∀ e ∈ es, worthD e = true) → ∃ is : List Int, es = is.map PyData.int ∧ ∀ i ∈ is, Wth i
  | [], _ => ⟨[], rfl, fun i m => nomatch m⟩
  | e :: es, h => by
    obtain ⟨is, e1, e2⟩ := worths_ints fun x hx => h x (List.mem_cons_of_mem _ hx)
    obtain ⟨i, rfl, hi⟩ := worthD_w (h e List.mem_cons_self)
    refine ⟨i :: is, by rw [e1]; rfl, fun j hj => ?_⟩
    rcases List.mem_cons.mp hj with rfl | hj
    · exact hi
    · exact e2 j hj
section
variable {P : Program} {w : World} {K : PySem.W.Frag} {mg : Str → Option Value} {base : Heap} {f g g2 : Addr} {fd gd gd2 : FuncData}
end
end Wr

set_option Elab.async false
set_option linter.all false
set_option maxRecDepth 100000
set_option maxHeartbeats 4000000
namespace Wr
open PySem PySem.Spec PyProof.Rows L2 Evl
section
variable {K : PySem.W.Frag} {b : List Addr} {a : Addr} {n m k : Nat} {σ : L2.St} {H H' : Hp} {ta tb te : TE} {t : TA} {tt : TT} {ts t1 t2 : TS} {P P' : PyData → Prop} {d : PyData} {ds : List PyData} {D : Ends}
theorem ed_tupS (kn : Kn b H) (ha : EA K b t σ H ds) (hl : ds.length ≤ 1000) : ED K b (tTupF t) σ H (.tuple ds) := ed_tup kn ha (by rw [sizeLine_eq]; omega)
/-- one of written items, by the bag -/
theorem eg_pick {i : Nat} {u : Int} {E : XK} (ha : a ∈ b) (hb : σ[i]? = some (some (.ref a))) (hd : ∀ H1, ExB a H H1 → Kn b H1 → EA K b t σ H1 ds) (hu : u = (ds.length : Nat)) (l0 : 0 < ds.length) (l1 : ds.length ≤ 1000) (hp : ∀ z ∈ ds, P z) : EG K b a n n (tOp (rIxL K) (tLst t) (tCall (spTake K) [] E (tCons (tVar i) (tCons (tC (.int u)) tNil)))) σ H P :=
  eg_ixL (k := n) (P1 := (· = .list ds)) (P2 := IntB u) ha (eg_pure (fun H1 x1 kn1 => ed_lst kn1 (hd H1 x1 kn1) (by rw [sizeLine_eq]; omega)) rfl) (eg_take ha hb (by omega) (by omega)) fun d e p1 p2 => by
    subst p1
    obtain ⟨i, z, rfl, hz, hm⟩ := intB_at (ds := ds) p2 (by omega)
    exact ⟨_, i, z, rfl, rfl, hz, hp z hm⟩
theorem gs_ifG (h : EG K b a n k te σ H (fun d => ∃ c, d = .bool c)) (h1 : ∀ H', ExB a H H' → GS K b a k m t1 σ H' P) (h2 : ∀ H', ExB a H H' → GS K b a k m t2 σ H' P) : GS K b a n m (tSeq (tIfS (tTest te) t1 tNext) t2) σ H P := fun H1 x1 kn bg D q =>
  h H1 x1 kn bg _ fun v d H2 x2 b2 hv ⟨c, e⟩ => by
    subst e
    have ev := dq_bl hv
    subst ev
    refine ⟨c, rfl, ?_⟩
    cases c with
    | true =>
      rw [if_pos rfl]
      exact h1 H2 (x1.trans x2) H2 (ExB.refl a H2) (x2.kn kn b2) b2 _ fun v d H3 x3 b3 hv p => q v d H3 (x2.trans x3) b3 hv p
    | false =>
      rw [if_neg Bool.false_ne_true]
      exact h2 H2 (x1.trans x2) H2 (ExB.refl a H2) (x2.kn kn b2) b2 _ fun v d H3 x3 b3 hv p => q v d H3 (x2.trans x3) b3 hv p
theorem eg_eqI {u w : Int} (ha : a ∈ b) (h1 : EG K b a n k te σ H (IntB u)) : EG K b a n k (tOp rEq te (tC (.int w))) σ H (fun d => ∃ c, d = .bool c) :=
  eg_op (P2 := (· = .int w)) ha h1 (eg_pure (fun _ _ _ => ed_int) rfl) fun d e H1 x y Q p1 p2 _ _ hx hy q => by
    obtain ⟨r, rfl, _, _⟩ := p1
    subst p2
    rw [dq_int hx, dq_int hy]
    exact ⟨rfl, q _ _ H1 (Ex.refl H1) (.bl _) ⟨_, rfl⟩⟩
theorem eg_gtI {u w : Int} (ha : a ∈ b) (h1 : EG K b a n k te σ H (IntB u)) : EG K b a n k (tOp (rI0 fun i j => .bl (decide (j < i))) te (tC (.int w))) σ H (fun d => ∃ c, d = .bool c) :=
  eg_op (P2 := (· = .int w)) ha h1 (eg_pure (fun _ _ _ => ed_int) rfl) fun d e H1 x y Q p1 p2 _ _ hx hy q => by
    obtain ⟨r, rfl, _, _⟩ := p1
    subst p2
    exact ⟨_, _, dq_int hx, dq_int hy, q _ _ H1 (Ex.refl H1) (.bl _) ⟨_, rfl⟩⟩
theorem eg_intB (h : EG K b a n m te σ H (fun d => ∃ c, d = .bool c)) : EG K b a n m (tCB rInt1 (tCons te tNil)) σ H (fun d => d = .int 0 ∨ d = .int 1) := fun H1 x1 kn bg Q q =>
  h H1 x1 kn bg _ fun v d H2 x2 b2 hv ⟨c, e⟩ => by
    subst e
    exact (ed_intB (σ := []) (ed_c hv)) H2 (Ex.refl H2) Q fun w H3 x3 hw => q w _ H3 (x2.trans (exb x3)) (b2.ex x3) hw (by
      cases c
      · exact .inl rfl
      · exact .inr rfl)
end
/-! ### sayings of a chain -/
def nD : PyData := .tuple [.str "name", .str "n"]
theorem nD_v {hs : Hds} {n : Nat} : VaP hs (n + 1) nD := .name (by decide +kernel)
def VaA (x : Str) (m : Nat) (d : PyData) : Prop := ∀ hs : Hds, (x, 1) ∈ hs → VaP hs m d
def SaA (x : Str) (w m : Nat) (d : PyData) : Prop := ∀ hs : Hds, (x, 1) ∈ hs → SaP hs w m d
theorem all_nil {P : PyData → Prop} : ∀ d ∈ ([] : List PyData), P d := fun d h => nomatch h
theorem all_cons {P : PyData → Prop} {x : PyData} {xs : List PyData} (h : P x) (k : ∀ d ∈ xs, P d) : ∀ d ∈ x :: xs, P d := fun d hd => by
  rcases List.mem_cons.mp hd with rfl | hd
  · exact h
  · exact k d hd
theorem sap_up {hs : Hds} {w n : Nat} {d : PyData} (h : SaP hs w n d) : SaP hs w (n + 1) d := by
  induction h with
  | set a c => exact .set a c
  | one a c => exact .one a c
  | ite a _ _ i1 i2 => exact .ite a i1 i2
  | whl a _ i1 => exact .whl a i1
  | tri a _ _ i1 i2 => exact .tri a i1 i2
abbrev spCa (K : PySem.W.Frag) : Sp := spG K 0 (fun ds => ∃ x, ds = [.str x] ∧ PyData.strOk x = true) (fun ds d => ∃ x, ds = [.str x] ∧ SaA x 3 3 d)
abbrev s_ca : Stmt := topS 29
abbrev PCa : List Str := ["_law_bag_here", "_law_name"]
abbrev NCa : List Str := ["_law_bag_here", "_law_name", "_law_value", "_law_saying", "_law_other"]
theorem sc_ca : FnScope NCa PCa (defScope s_ca) := ⟨rfl, rfl, rfl, by decide +kernel, rfl, by decide +kernel, by decide +kernel⟩
section
variable {P : Program} {w : World} {K : PySem.W.Frag} {mg : Str → Option Value} {base : Heap} {f g : Addr} {fd gd : FuncData}
theorem ok_ca (D : Def K mg "_law_calling" s_ca PCa f fd) (Dt : Def K mg "_law_take" s_take ["_law_bag_here", "_law_many"] g gd) (B : Blt mg) : FnOk P w K mg base CX0 2 f fd PCa (spCa K) := by
  refine D.F.ok sc_ca (fun vs H Q E h => spG_len (fun ds ⟨x, e, _⟩ => by rw [e]; rfl) h) (fun cdv A outer s H vs Q E hr h => ?_)
  obtain ⟨b, a, k0, ws, ds, rfl, hab, kn, bg, hd, ⟨x, rfl, hx⟩, q⟩ := h
  obtain ⟨v1, d1, rfl, ed1, h1⟩ := one_of hd rfl
  cases ed1
  have ev1 := dq_str h1
  subst ev1
  have Gt := ok_take (P := P) (w := w) (base := base) Dt
  refine ⟨_, pss_cons (ps_set (i := 2) sc_ca.nd rfl (Or.inl rfl) (pe_tupF (pa_cons pe_str (pa_cons (pv 1) (pa_cons (pe_tupF (pa_cons (pe_tupF (pa_cons pe_str (pa_cons (pe_tupF (pa_cons pe_str (pa_cons pe_str pa_nil))) (pa_cons (pe_ix ix_list (pe_lst (pa_cons pe_int (pa_cons (pe_un un_neg pe_int) (pa_cons pe_int pa_nil)))) (pe_cd Dt Gt (hr.mono (by decide)) (pa_cons (pv 0) (pa_cons pe_int pa_nil))) (fun _ _ => rfl)) pa_nil)))) pa_nil)) pa_nil)))))
    (pss_cons (ps_set (i := 3) sc_ca.nd rfl (Or.inl rfl) (pe_ix ix_list (pe_lst (pa_cons (pe_tupF (pa_cons pe_str (pa_cons pe_str (pa_cons (pv 2) pa_nil)))) (pa_cons (pe_tupF (pa_cons pe_str (pa_cons (pv 2) pa_nil))) (pa_cons (pe_tupF (pa_cons pe_str (pa_cons (pv 2) pa_nil))) (pa_cons (pe_tupF (pa_cons pe_str (pa_cons (pv 2) (pa_cons (pe_tupF (pa_cons (pe_tupF (pa_cons pe_str (pa_cons pe_int pa_nil))) pa_nil)) (pa_cons (pe_tupF pa_nil) pa_nil))))) pa_nil))))) (pe_cd Dt Gt (hr.mono (by decide)) (pa_cons (pv 0) (pa_cons pe_int pa_nil))) (fun _ _ => rfl)))
    (pss_cons (ps_if (pt_cmpR op_eq (pe_cd Dt Gt (hr.mono (by decide)) (pa_cons (pv 0) (pa_cons pe_int pa_nil))) pe_int (nomark _)) (pss_one (ps_ret (pv 3))) pss_nil)
    (pss_cons (ps_set (i := 4) sc_ca.nd rfl (Or.inl rfl) (pe_ix ix_list (pe_lst (pa_cons (pe_tupF (pa_cons pe_str (pa_cons (pe_tupF (pa_cons pe_str (pa_cons pe_str pa_nil))) pa_nil))) (pa_cons (pe_tupF (pa_cons pe_str (pa_cons (pe_tupF (pa_cons pe_str (pa_cons pe_str pa_nil))) pa_nil))) (pa_cons (pe_tupF (pa_cons pe_str (pa_cons pe_str (pa_cons (pe_tupF (pa_cons pe_str (pa_cons pe_str pa_nil))) pa_nil)))) pa_nil)))) (pe_cd Dt Gt (hr.mono (by decide)) (pa_cons (pv 0) (pa_cons pe_int pa_nil))) (fun _ _ => rfl)))
    (pss_one (ps_ret (pe_tupF (pa_cons pe_str (pa_cons (pe_tupF (pa_cons (pv 3) (pa_cons (pe_tupF (pa_cons pe_str (pa_cons (pe_tupF (pa_cons pe_str (pa_cons pe_str pa_nil))) pa_nil))) pa_nil))) (pa_cons (pe_ix ix_str pe_str (pe_callTy call_intB rfl B.int bt_int (pa_cons (pe_cmpR op_gt (pe_cd Dt Gt (hr.mono (by decide)) (pa_cons (pv 0) (pa_cons pe_int pa_nil))) pe_int (nomark _)) pa_nil)) (fun _ _ => rfl)) (pa_cons (pe_tupF (pa_cons (pv 4) pa_nil)) pa_nil)))))))))), ?_⟩
  have hsl : sizeLine = 16777216 := sizeLine_eq
  have nE : ∀ {b' : List Addr} {σ' : L2.St} {H' : Hp}, Kn b' H' → ED K b' (tTupF (tCons (tC (.str "name")) (tCons (tC (.str "n")) tNil))) σ' H' nD := fun {_ _ _} kn' => ed_tupS kn' (ea_cons ed_str (ea_cons ed_str ea_nil)) (Nat.le_of_ble_eq_true rfl)
  have fE : ∀ {b' : List Addr} {σ' : L2.St} {H' : Hp}, Kn b' H' → ED K b' (tTupF (tCons (tC (.str "name")) (tCons (tC (.str "f")) tNil))) σ' H' (.tuple [.str "name", .str "f"]) := fun {_ _ _} kn' => ed_tupS kn' (ea_cons ed_str (ea_cons ed_str ea_nil)) (Nat.le_of_ble_eq_true rfl)
  have fV : ∀ {hs : Hds} {n : Nat}, VaP hs (n + 1) (.tuple [.str "name", .str "f"]) := fun {_ _} => .name (by decide +kernel)
  refine GS.fin (n := k0) (m := k0) (P := SaA x 3 3) (gs_set (k := k0) (P1 := VaA x 3) (eg_tup (ega_cons (k := k0) (P := (· = .str "call")) hab (eg_pure (fun _ _ _ => ed_str) rfl) (ega_cons (k := k0) (P := (· = .str x)) hab (eg_var (i := 1) rfl hab (.str x) rfl)
      (ega_cons (k := k0) (P := fun d => ∃ i, d = .tuple [.tuple [.str "add", nD, .int i]] ∧ Wth i) hab (eg_tup (ega_cons (k := k0) (P := fun d => ∃ i, d = .tuple [.str "add", nD, .int i] ∧ Wth i) hab (eg_tup (ega_cons (k := k0) (P := (· = .str "add")) hab (eg_pure (fun _ _ _ => ed_str) rfl) (ega_cons (k := k0) (P := (· = nD)) hab (eg_pure (fun _ _ kn' => nE kn') rfl)
        (ega_cons (k := k0) (P := fun d => ∃ i, d = .int i ∧ Wth i) hab (eg_pick (ds := [.int 1, .int (-1), .int 0]) hab rfl (fun H1 x1 kn1 => ea_cons ed_int (ea_cons (ed_neg ed_int) (ea_cons ed_int ea_nil))) rfl (by decide) (by decide) ?_) ega_nil))) ?_) ega_nil) ?_) ega_nil))) ?_)
    fun v2 d2 H2 x2 hv2 p2 => gs_set (k := k0) (P1 := SaA x 3 2) (eg_pick (ds := [.tuple [.str "set", .str "n", d2], .tuple [.str "say", d2], .tuple [.str "back", d2], .tuple [.str "if", d2, .tuple [.tuple [.str "say", .int 8]], .tuple []]]) hab rfl (fun H3 x3 kn3 => ?_) rfl (Nat.le_of_ble_eq_true rfl) (Nat.le_of_ble_eq_true rfl) ?_)
    fun v3 d3 H3 x3 hv3 p3 => gs_ifG (k := k0) (eg_eqI (u := 2) hab (eg_take hab rfl (by decide) (by decide))) (fun H4 x4 => gs_ret (eg_pure (fun H5 x5 kn5 => ed_var (i := 3) rfl ((hv3.upB hab x4).upB hab x5)) ?_))
    fun H4 x4 => gs_set (k := k0) (P1 := fun d => ∀ hs : Hds, SaP hs 3 1 d) (eg_pick (ds := [.tuple [.str "say", .tuple [.str "name", .str "f"]], .tuple [.str "throw", .tuple [.str "name", .str "f"]], .tuple [.str "set", .str "n", .tuple [.str "name", .str "f"]]]) hab rfl (fun H5 x5 kn5 => ?_) rfl (by decide) (by decide) ?_)
    fun v5 d5 H5 x5 hv5 p5 => gs_ret (eg_tup (ega_cons (k := k0) (P := (· = .str "try")) hab (eg_pure (fun _ _ _ => ed_str) rfl) (ega_cons (k := k0) (P := (· = .tuple [d3, .tuple [.str "say", nD]])) hab (eg_pure (fun H6 x6 kn6 => ?_) rfl)
      (ega_cons (k := k0) (P := fun d => ∃ y, d = .str y ∧ PyData.strOk y = true) hab (eg_op (k := k0) (P1 := (· = .str "nf")) (P2 := fun d => d = .int 0 ∨ d = .int 1) hab (eg_pure (fun _ _ _ => ed_str) rfl) (eg_intB (eg_gtI (u := 4) hab (eg_take hab rfl (by decide) (by decide)))) ?_) (ega_cons (k := k0) (P := (· = .tuple [d5])) hab (eg_pure (fun H6 x6 kn6 => ?_) rfl) ega_nil)))) ?_)) kn (bg.any) fun v d H' x' bg' hv p => q v d H' x' bg'.any hv ⟨x, rfl, p⟩
  · intro z hz
    simp only [List.mem_cons, List.not_mem_nil, or_false] at hz
    rcases hz with rfl | rfl | rfl <;> exact ⟨_, rfl, by decide, by decide⟩
  · rintro l ⟨e1, r1, rfl, rfl, e2, r2, rfl, rfl, e3, r3, rfl, ⟨i, rfl, hi⟩, rfl⟩
    exact ⟨by rw [hsl]; show 3 ≤ 16777216; decide, i, rfl, hi⟩
  · rintro l ⟨e1, r1, rfl, ⟨i, rfl, hi⟩, rfl⟩
    exact ⟨by rw [hsl]; show 1 ≤ 16777216; decide, i, rfl, hi⟩
  · rintro l ⟨e1, r1, rfl, rfl, e2, r2, rfl, rfl, e3, r3, rfl, ⟨i, rfl, hi⟩, rfl⟩
    exact ⟨by rw [hsl]; show 3 ≤ 16777216; decide, fun hs h => .call (n := 2) h hx (all_cons (.op (n := 1) (by decide +kernel) nD_v (.num hi)) all_nil)⟩
  · have vE : ED K b (tVar 2) [some (V.ref a), some (.str x), some v2, none, none] H3 d2 := ed_var (i := 2) rfl (hv2.upB hab x3)
    exact ea_cons (ed_tupS kn3 (ea_cons ed_str (ea_cons ed_str (ea_cons vE ea_nil))) (Nat.le_of_ble_eq_true rfl)) (ea_cons (ed_tupS kn3 (ea_cons ed_str (ea_cons vE ea_nil)) (Nat.le_of_ble_eq_true rfl)) (ea_cons (ed_tupS kn3 (ea_cons ed_str (ea_cons vE ea_nil)) (Nat.le_of_ble_eq_true rfl)) (ea_cons (ed_tupS kn3 (ea_cons ed_str (ea_cons vE (ea_cons (ed_tupS kn3 (ea_cons (ed_tupS kn3 (ea_cons ed_str (ea_cons ed_int ea_nil)) (Nat.le_of_ble_eq_true rfl)) ea_nil) (Nat.le_of_ble_eq_true rfl)) (ea_cons (ed_tupS kn3 ea_nil (Nat.le_of_ble_eq_true rfl)) ea_nil)))) (Nat.le_of_ble_eq_true rfl)) ea_nil)))
  · intro z hz hs h
    simp only [List.mem_cons, List.not_mem_nil, or_false] at hz
    have v := p2 hs h
    rcases hz with rfl | rfl | rfl | rfl
    · exact .set (by decide +kernel) v
    · exact .one (by decide +kernel) v
    · exact .one (by decide +kernel) v
    · exact .ite v (all_cons (.one (n := 0) (by decide +kernel) (.num ⟨by decide, by decide⟩)) all_nil) all_nil
  · exact fun hs h => sap_up (p3 hs h)
  · exact ea_cons (ed_tupS kn5 (ea_cons ed_str (ea_cons (fE kn5) ea_nil)) (Nat.le_of_ble_eq_true rfl)) (ea_cons (ed_tupS kn5 (ea_cons ed_str (ea_cons (fE kn5) ea_nil)) (Nat.le_of_ble_eq_true rfl)) (ea_cons (ed_tupS kn5 (ea_cons ed_str (ea_cons ed_str (ea_cons (fE kn5) ea_nil))) (Nat.le_of_ble_eq_true rfl)) ea_nil))
  · intro z hz hs
    simp only [List.mem_cons, List.not_mem_nil, or_false] at hz
    rcases hz with rfl | rfl | rfl
    · exact .one (by decide +kernel) fV
    · exact .one (by decide +kernel) fV
    · exact .set (by decide +kernel) fV
  · have v3E : ED K b (tVar 3) [some (V.ref a), some (.str x), some v2, some v3, some v5] H6 d3 := ed_var (i := 3) rfl (((hv3.upB hab x4).upB hab x5).upB hab x6)
    exact ed_tupS kn6 (ea_cons v3E (ea_cons (ed_tupS kn6 (ea_cons ed_str (ea_cons (nE kn6) ea_nil)) (Nat.le_of_ble_eq_true rfl)) ea_nil)) (Nat.le_of_ble_eq_true rfl)
  · intro d e H1 x0 y Q p1 p2 _ _ hx0 hy q
    subst p1
    rw [dq_str hx0]
    rcases p2 with rfl | rfl
    · rw [dq_int hy]
      exact ⟨"nf", 0, 110, rfl, rfl, by decide +kernel, by decide +kernel, q _ (.str "n") H1 (Ex.refl H1) (.str _) ⟨"n", rfl, by decide +kernel⟩⟩
    · rw [dq_int hy]
      exact ⟨"nf", 1, 102, rfl, rfl, by decide +kernel, by decide +kernel, q _ (.str "f") H1 (Ex.refl H1) (.str _) ⟨"f", rfl, by decide +kernel⟩⟩
  · exact ed_tupS kn6 (ea_cons (ed_var (i := 4) rfl (hv5.upB hab x6)) ea_nil) (Nat.le_of_ble_eq_true rfl)
  · rintro l ⟨e1, r1, rfl, rfl, e2, r2, rfl, rfl, e3, r3, rfl, ⟨y, rfl, hy⟩, e4, r4, rfl, rfl, rfl⟩
    exact ⟨by rw [hsl]; show 4 ≤ 16777216; decide, fun hs h => .tri (n := 2) hy (all_cons (p3 hs h) (all_cons (.one (n := 1) (by decide +kernel) nD_v) all_nil)) (all_cons (sap_up (p5 hs)) all_nil)⟩
end
end Wr

set_option Elab.async false
set_option linter.all false
set_option maxRecDepth 100000
set_option maxHeartbeats 4000000
namespace Wr
open PySem PySem.Spec PyProof.Rows L2 Evl
section
variable {K : PySem.W.Frag} {b : List Addr} {a : Addr} {n m k : Nat} {σ : L2.St} {H H' : Hp} {ta tb te : TE} {ts : TS} {P P' : PyData → Prop} {d : PyData} {ds : List PyData} {D : Ends}
theorem g_appG {j : Nat} {F : Addr} {vs : List V} (hσ : σ[j]? = some (some (.ref F))) (hF : H F = some (.lst vs)) (Fa : F ≠ a) (hl : vs.length < 10000000) (he : EG K b a n m te σ H P) (kn : Kn b H) (bg : Bag a n H) (kk : ∀ y d H', ExB a H H' → Bag a m H' → Kn b H' → Dq K b H' y d → P d → D.nx σ (upd H' F (.lst (vs ++ [y])))) : tDrop (tBM K "list" rAppend (tVar j) (tCons te tNil)) D σ H :=
  ⟨.ref F, hσ, .inl ⟨rfl, _, .inl (.inl hF)⟩, he H (ExB.refl a H) kn bg _ fun y d H' x bg' hy p => ⟨F, vs, y, rfl, rfl, x _ _ Fa hF, by rw [sizeLine_eq]; omega, kk y d H' x bg' (x.kn kn bg') hy p⟩⟩
theorem g_lstF {i : Nat} {t : TA} (kn : Kn b H) (hd : EA K b t σ H ds) (hl : ds.length ≤ 1000) (k : ∀ p vs H', H p = none → Ex H H' → H' p = some (.lst vs) → DqAll K (p :: b) H' vs ds → ts D (σ.set i (some (.ref p))) H') : tSeq (tAsg (tLst t) (gName i)) ts D σ H :=
  hd H (Ex.refl H) _ fun vs H1 x1 hv => ⟨by rw [dps_len hv, sizeLine_eq]; omega, fun p hp => k p vs _ (by
    cases q : H p with
    | none => rfl
    | some o => rw [x1 _ _ q] at hp; cases hp) (x1.trans (Ex.new hp)) upd_same (dps_ex (hid_ex (Ex.new hp)) _ _ (dps_ex (hide_ex hp) _ _ hv))⟩
theorem et_rEq {i : Nat} {r w : Int} (h : σ[i]? = some (some (.int r))) : EvT (tTest (tOp rEq (tVar i) (tC (.int w)))) σ H (decide (V.int r = V.int w)) := fun H1 x1 Q q => ⟨.int r, h, rfl, _, rfl, q H1 (Ex.refl H1)⟩
theorem bag_upd {F : Addr} {o : HO} (bg : Bag a n H) (Fa : F ≠ a) : Bag a n (upd H F o) := by
  obtain ⟨g, y, e1, e2⟩ := bg
  exact ⟨g, y, by rw [upd_ne (Ne.symm Fa)]; exact e1, e2⟩
theorem dq_lstF {F : Addr} {vs : List V} (Fb : F ∉ b) (hF : H F = some (.lst vs)) (hd : DqAll K (F :: b) H vs ds) : Dq K b H (.ref F) (.list ds) := .lst (.inl (.inl (by rw [hid_ne Fb]; exact hF))) (dps_ex show_ex _ _ hd)
end
def lessE (i : Int) : PyData := .tuple [.str "less", nD, .int i]
theorem lessE_v {hs : Hds} {n : Nat} {i : Int} (h : Wth i) : VaP hs (n + 2) (lessE i) := .op (n := n + 1) (by decide +kernel) nD_v (.num h)
def NmP (names : List Str) : Prop := 0 < names.length ∧ names.length ≤ 6 ∧ ∀ x ∈ names, PyData.strOk x = true
abbrev spLa (K : PySem.W.Frag) : Sp := spG K 0 (fun ds => ∃ names : List Str, ds = [.list (names.map .str)] ∧ NmP names) (fun ds d => ∃ (names : List Str) (ss : List PyData), ds = [.list (names.map .str)] ∧ d = .tuple ss ∧ ∀ hs : Hds, (∀ x ∈ names, (x, 1) ∈ hs) → ∀ s ∈ ss, SaP hs 3 1 s)
abbrev s_la : Stmt := topS 28
abbrev PLa : List Str := ["_law_bag_here", "_law_names"]
abbrev NLa : List Str := ["_law_bag_here", "_law_names", "_law_value", "_law_way", "_law_some"]
theorem sc_la : FnScope NLa PLa (defScope s_la) := ⟨rfl, rfl, rfl, by decide +kernel, rfl, by decide +kernel, by decide +kernel⟩
section
variable {P : Program} {w : World} {K : PySem.W.Frag} {mg : Str → Option Value} {base : Heap} {f g : Addr} {fd gd : FuncData}
theorem ok_la (D : Def K mg "_law_last" s_la PLa f fd) (Dt : Def K mg "_law_take" s_take ["_law_bag_here", "_law_many"] g gd) (B : Blt mg) (B2 : Blt2 mg) : FnOk P w K mg base CX0 2 f fd PLa (spLa K) := by
  refine D.F.ok sc_la (fun vs H Q E h => spG_len (fun ds ⟨x, e, _⟩ => by rw [e]; rfl) h) (fun cdv A outer s H vs Q E hr h => ?_)
  obtain ⟨b, a, k0, ws, ds, rfl, hab, kn, bg, hd, ⟨names, rfl, hN⟩, q⟩ := h
  obtain ⟨v1, d1, rfl, ed1, h1⟩ := one_of hd rfl
  cases ed1
  have Gt := ok_take (P := P) (w := w) (base := base) Dt
  refine ⟨_, pss_cons (ps_set (i := 2) sc_la.nd rfl (Or.inl rfl) (pe_lst (pa_cons (pe_tupF (pa_cons pe_str (pa_cons (pe_tupF (pa_cons pe_str (pa_cons pe_str pa_nil))) (pa_cons pe_int pa_nil)))) (pa_cons (pe_tupF (pa_cons pe_str (pa_cons (pe_op op_pow pe_int pe_int) (pa_cons (pe_tupF (pa_cons pe_str (pa_cons pe_str pa_nil))) pa_nil)))) (pa_cons (pe_tupF (pa_cons pe_str (pa_cons pe_str pa_nil))) (pa_cons (pe_tupF (pa_cons pe_str (pa_cons pe_str pa_nil))) pa_nil))))))
    (pss_cons (ps_expr (pe_bm PySem.F.plainAttrs_list PySem.F.slot_list_append PySem.F.type_list_append mt_append (pv 2) (pa_cons (pe_tupF (pa_cons pe_str (pa_cons (pe_ix ix_list (pv 1) (pe_cd Dt Gt (hr.mono (by decide)) (pa_cons (pv 0) (pa_cons (pe_callB call_lenD1 rfl B.len bb_len (pa_cons (pv 1) pa_nil)) pa_nil))) (fun _ _ => rfl)) (pa_cons (pe_tupF (pa_cons (pe_tupF (pa_cons pe_str (pa_cons (pe_tupF (pa_cons pe_str (pa_cons pe_str pa_nil))) (pa_cons pe_int pa_nil)))) pa_nil)) pa_nil)))) pa_nil)))
    (pss_cons (ps_set (i := 3) sc_la.nd rfl (Or.inl rfl) (pe_cd Dt Gt (hr.mono (by decide)) (pa_cons (pv 0) (pa_cons pe_int pa_nil))))
    (pss_cons (ps_set (i := 4) sc_la.nd rfl (Or.inl rfl) (pe_ix ix_list (pv 2) (pe_callB (cr_min2 rfl) rfl B2.min bb_min (pa_cons (pv 3) (pa_cons pe_int pa_nil))) (fun _ _ => rfl)))
    (pss_cons (ps_if (pt_cmpR op_eq (pv 3) pe_int (nomark _)) (pss_one (ps_ret (pe_tupF (pa_cons (pe_tupF (pa_cons pe_str (pa_cons (pe_tupF (pa_cons pe_str (pa_cons pe_str pa_nil))) pa_nil))) (pa_cons (pe_tupF (pa_cons pe_str (pa_cons (pe_tupF (pa_cons pe_str (pa_cons (pe_tupF (pa_cons pe_str (pa_cons pe_str pa_nil))) (pa_cons pe_int pa_nil)))) pa_nil))) pa_nil))))) pss_nil)
    (pss_cons (ps_if (pt_cmpR op_eq (pv 3) pe_int (nomark _)) (pss_one (ps_ret (pe_tupF (pa_cons (pe_tupF (pa_cons pe_str (pa_cons (pe_tupF (pa_cons pe_str (pa_cons (pe_tupF (pa_cons pe_str (pa_cons pe_str pa_nil))) (pa_cons pe_int pa_nil)))) pa_nil))) (pa_cons (pe_tupF (pa_cons pe_str (pa_cons pe_int pa_nil))) pa_nil))))) pss_nil)
    (pss_one (ps_ret (pe_tupF (pa_cons (pe_tupF (pa_cons pe_str (pa_cons (pe_tupF (pa_cons pe_str (pa_cons pe_str pa_nil))) pa_nil))) (pa_cons (pe_tupF (pa_cons pe_str (pa_cons (pv 4) pa_nil))) pa_nil)))))))))), ?_⟩
  have hsl : sizeLine = 16777216 := sizeLine_eq
  have nE : ∀ {b' : List Addr} {σ' : L2.St} {H' : Hp}, Kn b' H' → ED K b' (tTupF (tCons (tC (.str "name")) (tCons (tC (.str "n")) tNil))) σ' H' nD := fun {_ _ _} kn' => ed_tupS kn' (ea_cons ed_str (ea_cons ed_str ea_nil)) (Nat.le_of_ble_eq_true rfl)
  have lE : ∀ {b' : List Addr} {σ' : L2.St} {H' : Hp} (i : Int), Kn b' H' → ED K b' (tTupF (tCons (tC (.str "less")) (tCons (tTupF (tCons (tC (.str "name")) (tCons (tC (.str "n")) tNil))) (tCons (tC (.int i)) tNil)))) σ' H' (lessE i) := fun {_ _ _} i kn' => ed_tupS kn' (ea_cons ed_str (ea_cons (nE kn') (ea_cons ed_int ea_nil))) (Nat.le_of_ble_eq_true rfl)
  have pw : ∀ {b' : List Addr} {σ' : L2.St} {H' : Hp}, ED K b' (tOp (rI CPow fun i j => .int (i ^ j.toNat)) (tC (.int 10)) (tC (.int 11))) σ' H' (.int 100000000000) := fun {_ _ _} => ed_I ed_int ed_int ⟨by decide, by decide, by decide⟩ fun _ => .int _
  refine g_lstF (K := K) (b := b) (i := 2) (ds := [.tuple [.str "over", nD, .int 0], .tuple [.str "times", .int 100000000000, nD], .tuple [.str "name", .str "z"], nD]) kn (ea_cons (ed_tupS kn (ea_cons ed_str (ea_cons (nE kn) (ea_cons ed_int ea_nil))) (Nat.le_of_ble_eq_true rfl)) (ea_cons (ed_tupS kn (ea_cons ed_str (ea_cons pw (ea_cons (nE kn) ea_nil))) (Nat.le_of_ble_eq_true rfl)) (ea_cons (ed_tupS kn (ea_cons ed_str (ea_cons ed_str ea_nil)) (Nat.le_of_ble_eq_true rfl)) (ea_cons (nE kn) ea_nil)))) (by decide) fun F vs0 H2 hF x2 h2 d2 => ?_
  show tSeq _ _ _ [some (.ref a), some v1, some (.ref F), none, none] H2
  have bg2 := bg.ex x2
  have kn2 := kn.up x2
  have Fa : F ≠ a := fun e => bg.there (e ▸ hF)
  have Fb : F ∉ b := kn.new hF
  have knF : Kn (F :: b) H2 := fun c hc => by
    rcases List.mem_cons.mp hc with rfl | hc
    · rw [h2]; intro z; cases z
    · exact kn2 c hc
  have hab2 : a ∈ F :: b := List.mem_cons_of_mem _ hab
  have h1F : Dq K (F :: b) H2 v1 (.list (names.map .str)) := dp_ex (hid_ex x2) _ _ (Dq.hide h1 hF)
  obtain ⟨n0, n6, nok⟩ := hN
  have l2 := dps_len d2
  refine g_appG (K := K) (b := F :: b) (a := a) (n := 0) (m := 0) (j := 2) (P := fun d => ∃ x ∈ names, d = .tuple [.str "call", .str x, .tuple [lessE 1]]) rfl h2 Fa (by rw [l2]; show 4 < 10000000; decide) (eg_tup (ega_cons (k := 0) (P := (· = .str "call")) hab2 (eg_pure (fun _ _ _ => ed_str) rfl) (ega_cons (k := 0) (P := fun d => ∃ x ∈ names, d = .str x) hab2
      (eg_ixL (k := 0) (P1 := (· = .list (names.map .str))) (P2 := IntB (names.length : Nat)) hab2 (eg_var (i := 1) rfl hab2 h1F rfl) (eg_takeE (u := (names.length : Nat)) (P1 := (· = .int (names.length : Nat))) hab2 rfl (eg_pure (fun H3 x3 kn3 => (ed_len (ed_var (i := 1) rfl (h1F.upB hab2 x3)) (.inr (.inl rfl)) fun y e => by cases e).to ?_) rfl) ?_) ?_)
      (ega_cons (k := 0) (P := (· = .tuple [lessE 1])) hab2 (eg_pure (fun H3 x3 kn3 => ed_tupS kn3 (ea_cons (lE 1 kn3) ea_nil) (Nat.le_of_ble_eq_true rfl)) rfl) ega_nil))) ?_) knF bg2 fun y d4 H3 x3 bg3 knF3 hy ⟨xc, hxc, ed4⟩ => ?_
  · show PyData.int (((names.map PyData.str).length : Nat) : Int) = _
    rw [List.length_map]
  · rintro d rfl
    exact ⟨_, rfl, by omega, by omega, Int.le_refl _⟩
  · rintro d e rfl hi
    obtain ⟨j, z, rfl, hz, hm⟩ := intB_at (ds := names.map .str) hi (by rw [List.length_map]; exact Int.le_refl _)
    obtain ⟨x, hx, rfl⟩ := List.mem_map.mp hm
    exact ⟨_, j, _, rfl, rfl, hz, x, hx, rfl⟩
  · rintro l ⟨e1, r1, rfl, rfl, e2, r2, rfl, ⟨x, hx, rfl⟩, e3, r3, rfl, rfl, rfl⟩
    exact ⟨by rw [hsl]; show 3 ≤ 16777216; decide, x, hx, rfl⟩
  subst ed4
  have hF3 : (upd H3 F (.lst (vs0 ++ [y]))) F = some (.lst (vs0 ++ [y])) := upd_same
  have d3F : DqAll K (F :: b) (upd H3 F (.lst (vs0 ++ [y]))) (vs0 ++ [y]) ([.tuple [.str "over", nD, .int 0], .tuple [.str "times", .int 100000000000, nD], .tuple [.str "name", .str "z"], nD] ++ [.tuple [.str "call", .str xc, .tuple [lessE 1]]]) := dps_ex put_ex _ _ (dps_app (DqAll.upB hab2 d2 x3) (.cons hy .nil))
  have bg4 : Bag a 0 (upd H3 F (.lst (vs0 ++ [y]))) := bag_upd bg3 Fa
  have kn4 : Kn b (upd H3 F (.lst (vs0 ++ [y]))) := fun c hc => by
    rw [upd_ne (fun e => Fb (by rw [← e]; exact hc))]
    exact knF3 c (List.mem_cons_of_mem _ hc)
  have x4 : ExB a H (upd H3 F (.lst (vs0 ++ [y]))) := fun c o ca z => by
    rw [upd_ne (fun e => by rw [e, hF] at z; cases z)]
    exact x3 _ _ ca (x2 _ _ z)
  have dF := dq_lstF Fb hF3 d3F
  generalize upd H3 F (.lst (vs0 ++ [y])) = H4 at hF3 d3F bg4 kn4 x4 dF
  show tSeq _ _ _ [some (.ref a), some v1, some (.ref F), none, none] H4
  refine GS.fin (n := 0) (m := 0) (P := fun d => ∃ ss, d = .tuple ss ∧ ∀ hs : Hds, (∀ x ∈ names, (x, 1) ∈ hs) → ∀ s ∈ ss, SaP hs 3 1 s) (gs_set (k := 0) (eg_take (u := 7) hab rfl (by decide) (by decide)) fun v5 d5 H5 x5 hv5 ⟨r, er, r0, r1⟩ => ?_) kn4 bg4 fun v d H' x' bg' hv ⟨ss, e1, e2⟩ => q v d H' (x4.trans x') bg'.any hv ⟨names, ss, rfl, e1, e2⟩
  subst er
  have ev5 := dq_int hv5
  subst ev5
  refine gs_set (k := 0) (P1 := fun d => ∀ hs : Hds, (∀ x ∈ names, (x, 1) ∈ hs) → VaP hs 3 d) (eg_ixL (k := 0) (P1 := (· = .list ([.tuple [.str "over", nD, .int 0], .tuple [.str "times", .int 100000000000, nD], .tuple [.str "name", .str "z"], nD] ++ [.tuple [.str "call", .str xc, .tuple [lessE 1]]]))) (P2 := IntB 5) hab (eg_var (i := 2) rfl hab (dF.upB hab x5) rfl) (eg_pure (fun H6 x6 kn6 => ed_min2 (ed_var (i := 3) rfl (.int _)) (ed_int (i := 4))) ⟨_, rfl, by split <;> omega, by split <;> omega⟩) ?_) fun v6 d6 H6 x6 hv6 p6 => ?_
  · rintro d e rfl hi
    obtain ⟨j, z, rfl, hz, hm⟩ := intB_at (ds := [.tuple [.str "over", nD, .int 0], .tuple [.str "times", .int 100000000000, nD], .tuple [.str "name", .str "z"], nD] ++ [.tuple [.str "call", .str xc, .tuple [lessE 1]]]) hi (by show (5 : Int) ≤ ((5 : Nat) : Int); decide)
    refine ⟨_, j, z, rfl, rfl, hz, fun hs h => ?_⟩
    simp only [List.cons_append, List.nil_append, List.mem_cons, List.not_mem_nil, or_false] at hm
    rcases hm with rfl | rfl | rfl | rfl | rfl
    · exact .op (by decide +kernel) nD_v (.num ⟨by decide, by decide⟩)
    · exact .op (by decide +kernel) (.num ⟨by decide, by decide⟩) nD_v
    · exact .name (by decide +kernel)
    · exact nD_v
    · exact .call (h xc hxc) (nok xc hxc) (all_cons (lessE_v ⟨by decide, by decide⟩) all_nil)
  have sayN : ∀ {hs : Hds}, SaP hs 3 1 (.tuple [.str "say", nD]) := fun {_} => .one (by decide +kernel) nD_v
  refine gs_if (fun H7 x7 kn7 => et_rEq (i := 3) rfl) (fun _ => gs_ret (eg_pure (d := .tuple [.tuple [.str "say", nD], .tuple [.str "throw", lessE 7]]) (fun H7 x7 kn7 => ed_tupS kn7 (ea_cons (ed_tupS kn7 (ea_cons ed_str (ea_cons (nE kn7) ea_nil)) (Nat.le_of_ble_eq_true rfl)) (ea_cons (ed_tupS kn7 (ea_cons ed_str (ea_cons (lE 7 kn7) ea_nil)) (Nat.le_of_ble_eq_true rfl)) ea_nil)) (Nat.le_of_ble_eq_true rfl)) ⟨_, rfl, fun hs h => all_cons sayN (all_cons (.one (by decide +kernel) (lessE_v ⟨by decide, by decide⟩)) all_nil)⟩)) fun _ => ?_
  refine gs_if (fun H7 x7 kn7 => et_rEq (i := 3) rfl) (fun _ => gs_ret (eg_pure (d := .tuple [.tuple [.str "back", .tuple [.str "times", nD, .int 2]], .tuple [.str "say", .int 5]]) (fun H7 x7 kn7 => ed_tupS kn7 (ea_cons (ed_tupS kn7 (ea_cons ed_str (ea_cons (ed_tupS kn7 (ea_cons ed_str (ea_cons (nE kn7) (ea_cons ed_int ea_nil))) (Nat.le_of_ble_eq_true rfl)) ea_nil)) (Nat.le_of_ble_eq_true rfl)) (ea_cons (ed_tupS kn7 (ea_cons ed_str (ea_cons ed_int ea_nil)) (Nat.le_of_ble_eq_true rfl)) ea_nil)) (Nat.le_of_ble_eq_true rfl))
    ⟨_, rfl, fun hs h => all_cons (.one (by decide +kernel) (.op (by decide +kernel) nD_v (.num ⟨by decide, by decide⟩))) (all_cons (.one (by decide +kernel) (.num ⟨by decide, by decide⟩)) all_nil)⟩)) fun _ => ?_
  exact gs_ret (eg_pure (d := .tuple [.tuple [.str "say", nD], .tuple [.str "back", d6]]) (fun H7 x7 kn7 => ed_tupS kn7 (ea_cons (ed_tupS kn7 (ea_cons ed_str (ea_cons (nE kn7) ea_nil)) (Nat.le_of_ble_eq_true rfl)) (ea_cons (ed_tupS kn7 (ea_cons ed_str (ea_cons (ed_var (i := 4) rfl (hv6.upB hab x7)) ea_nil)) (Nat.le_of_ble_eq_true rfl)) ea_nil)) (Nat.le_of_ble_eq_true rfl)) ⟨_, rfl, fun hs h => all_cons sayN (all_cons (.one (by decide +kernel) (p6 hs h)) all_nil)⟩)
end
end Wr

set_option Elab.async false
set_option linter.all false
set_option maxRecDepth 100000
set_option maxHeartbeats 4000000
namespace Wr
open PySem PySem.Spec PyProof.Rows L2 Evl
section
variable {K : PySem.W.Frag} {b : List Addr} {a : Addr} {n m k : Nat} {σ : L2.St} {H H' : Hp} {ta tb te : TE} {t : TA} {ts : TS} {D : Ends} {d : PyData} {ds : List PyData}
/-- [.. for i in range(n)], n drawn, from lo on -/
theorem eg_lcRL {i0 c u lo : Nat} {R : Nat → PyData → Prop} (ha : a ∈ b) (hc : EG K b a n (m + u * c) ta σ H (fun d => ∃ r : Nat, d = .int (r : Nat) ∧ lo ≤ r ∧ r < u)) (hu : u ≤ 1000)
    (he : ∀ (D : Addr) (i f : Nat) (H0 H1 : Hp), i + 1 < u → ExB a H H0 → H0 D = none → ExB a H0 H1 → EG K (D :: b) a (f + c) f te ((wipe σ [i0]).set i0 (some (.int (i : Nat)))) H1 (R i)) :
    EG K b a n m (tLc (iRng1 (tCons ta tNil)) (gName i0) tYes te [i0]) σ H (fun d => ∃ ds, d = .list ds ∧ lo ≤ ds.length ∧ ds.length < u ∧ ∀ i x, ds[i]? = some x → R i x) := fun H1 x1 kn bg Q q =>
  hc H1 x1 kn bg _ fun v d H2 x2 b2 hv ⟨N, er, r0, hN⟩ => by
    subst er
    have e := dq_int hv
    subst e
    have bN : Bag a (m + N * c) H2 := b2.le (by have := Nat.mul_le_mul_right c (Nat.le_of_lt hN); omega)
    exact eg_lcR (K := K) (b := b) (a := a) (m := m) (σ := σ) (H := H2) (ta := tC (.int (N : Nat))) (te := te) (i0 := i0) (c := c) (N := N) (R := R) ha (fun _ _ _ => ed_int) (by omega) (fun D i f H0 H3 hi y hD z => he D i f H0 H3 (by omega) ((x1.trans x2).trans y) hD z) H2 (ExB.refl a H2) (x2.kn kn b2) bN Q fun y d H3 x3 b3 hy ⟨ds, e1, e2, e3⟩ => q y d H3 (x2.trans x3) b3 hy ⟨ds, e1, by omega, by omega, e3⟩
end
theorem tt_of {hs : Hds} {ts : List Tup} (hd : hs = ts.map fun e => (e.1, e.2.1.length)) (nd : (ts.map (·.1)).Nodup) (h : ∀ e ∈ ts, e.2.1.length ≤ 10 ∧ (e.2.1.all PyData.strOk) = true ∧ ∃ w n, (w + n ≤ 6 ∧ w + 3 * n ≤ 14) ∧ ∀ s ∈ e.2.2, SaP hs w n s) : TtOk hs 6 (tOf ts) := by
  refine ⟨fun x k hx => ?_, fun p hp => ?_, fun x t ht => ?_⟩
  · rw [hd] at hx
    obtain ⟨e, he, ee⟩ := List.mem_map.mp hx
    injection ee with e1 e2
    subst e1 e2
    exact ⟨e.2, tof_mem nd he, rfl⟩
  · rw [hd] at hp
    obtain ⟨e, he, rfl⟩ := List.mem_map.mp hp
    exact (h e he).1
  · rcases tof_some ht with ⟨e, he, _, rfl⟩ | z
    · exact h e he
    · cases z
abbrev n1 : List Str := ["n"]
abbrev mkT (x : Str) (ss : List PyData) : Tup := (x, n1, ss)
def CN : List Str := ["a", "bb", "ccc", "dddd", "eeeee", "main"]
theorem CN_ok : ∀ x ∈ CN, PyData.strOk x = true := fun x h => List.all_eq_true.mp (show (CN.all PyData.strOk) = true by decide +kernel) x h
theorem CN_nd : CN.Nodup := by decide +kernel
def TreC (d : PyData) : Prop := ∃ (hs : Hds) (ts : List Tup), d = treeT ts ∧ TtOk hs 6 (tOf ts) ∧ 0 < ts.length ∧ ts.length ≤ 6 ∧ ∀ e ∈ ts, tOf ts e.1 = some e.2 ∧ e.2.1.length = 1
abbrev s_ch : Stmt := topS 30
abbrev NCh : List Str := ["_law_bag_here", "_law_many", "_law_names", "_law_found", "_law_k", "_law_sayings", "_law_turn"]
theorem sc_ch : FnScope NCh ["_law_bag_here"] (defScope s_ch) := ⟨rfl, rfl, rfl, by decide +kernel, rfl, by decide +kernel, by decide +kernel⟩
theorem atI_last {α : Type} {xs : List α} {x : α} (h : xs[xs.length - 1]? = some x) : atI xs (-1) = some x := by
  have hl : 0 < xs.length := by
    have := (List.getElem?_eq_some_iff.mp h).1
    omega
  unfold atI
  have e : ixN xs.length (-1) = some (xs.length - 1) := by
    unfold ixN
    rw [if_neg (by decide)]
    rw [if_pos (by omega)]
    congr 1
    omega
  rw [e]
  exact h
section
variable {P : Program} {w : World} {K : PySem.W.Frag} {mg : Str → Option Value} {base : Heap} {f g g2 g3 : Addr} {fd gd gd2 gd3 : FuncData}
theorem ok_ch (D : Def K mg "_law_chain" s_ch ["_law_bag_here"] f fd) (Dt : Def K mg "_law_take" s_take ["_law_bag_here", "_law_many"] g gd) (Dc : Def K mg "_law_calling" s_ca PCa g2 gd2) (Dl : Def K mg "_law_last" s_la PLa g3 gd3) (B : Blt mg) (B2 : Blt2 mg) :
    FnOk P w K mg base CX0 3 f fd ["_law_bag_here"] (spG K 0 (· = []) fun _ d => TreC d) := by
  refine D.F.ok sc_ch (fun vs H Q E h => spG_len (fun ds e => by rw [e]; rfl) h) (fun cdv A outer s H vs Q E hr h => ?_)
  obtain ⟨b, a, k0, ws, ds, rfl, hab, kn, bg, hd, rfl, q⟩ := h
  cases hd
  have Gt := ok_take (P := P) (w := w) (base := base) Dt
  have Gc := ok_ca (P := P) (w := w) (base := base) Dc Dt B
  have Gl := ok_la (P := P) (w := w) (base := base) Dl Dt B B2
  refine ⟨_, pss_cons (ps_set (i := 1) sc_ch.nd rfl (Or.inl rfl) (pe_op op_add pe_int (pe_cd Dt Gt (hr.mono (by decide)) (pa_cons (pv 0) (pa_cons pe_int pa_nil)))))
    (pss_cons (ps_set (i := 2) sc_ch.nd rfl (Or.inr rfl) (pe_slice sl_list (pe_lst (pa_cons pe_str (pa_cons pe_str (pa_cons pe_str (pa_cons pe_str (pa_cons pe_str (pa_cons pe_str pa_nil))))))) po_none (po_some (pv 1))))
    (pss_cons (ps_set (i := 3) sc_ch.nd rfl (Or.inl rfl) (pe_lst pa_nil))
    (pss_cons (ps_for PassesOwn.never rfl (pi_range1 rfl B.range (pa_cons (pe_op op_sub (pv 1) pe_int) pa_nil)) (pg_name (i := 4) sc_ch.nd rfl (Or.inr rfl)) (pss_cons (ps_set (i := 5) sc_ch.nd rfl (Or.inl rfl) (pe_callTy call_tupF rfl B.tuple bt_tuple (pa_cons (pe_lc (own := [("_law_turn", 6)]) (g := gName 6) (tt := tYes) (te := (tCall (spCa K) [] E0 (tCons (tVar 0) (tCons (tOp (rIxL K) (tVar 2) (tOp (rI0 fun i j => .int (i + j)) (tVar 4) (tC (.int 1)))) tNil)))) rfl sc_ch.nd (pi_range1 rfl B.range (pa_cons (pe_op op_add pe_int (pe_cd Dt Gt (hr.mono (by decide)) (pa_cons (pv 0) (pa_cons pe_int pa_nil)))) pa_nil)) (blkOk_by (N := NCh) (sc := defScope s_ch) (by decide +kernel)) (fun _ _ _ _ _ => (pg_name (i := 6) sc_ch.nd rfl (Or.inl rfl))) (fun _ _ _ _ _ => pts_nil) (fun _ _ _ _ _ => (pe_cd Dc Gc hr (pa_cons (pv 0) (pa_cons (pe_ix (r := rIxL K) ix_list (pv 2) (pe_op (r := rI0 fun i j => .int (i + j)) op_add (pv 4) pe_int) (fun _ _ => rfl)) pa_nil))))) pa_nil)))
    (pss_one (ps_expr (pe_bm PySem.F.plainAttrs_list PySem.F.slot_list_append PySem.F.type_list_append mt_append (pv 3) (pa_cons (pe_tupF (pa_cons (pe_ix ix_list (pv 2) (pv 4) (fun _ _ => rfl)) (pa_cons (pe_tupF (pa_cons pe_str pa_nil)) (pa_cons (pe_op op_catF (pv 5) (pe_tupF (pa_cons (pe_tupF (pa_cons pe_str (pa_cons (pe_tupF (pa_cons pe_str (pa_cons pe_str pa_nil))) pa_nil))) pa_nil))) pa_nil)))) pa_nil))))))
    (pss_cons (ps_expr (pe_bm PySem.F.plainAttrs_list PySem.F.slot_list_append PySem.F.type_list_append mt_append (pv 3) (pa_cons (pe_tupF (pa_cons (pe_ix ix_list (pv 2) (pe_un un_neg pe_int) (fun _ _ => rfl)) (pa_cons (pe_tupF (pa_cons pe_str pa_nil)) (pa_cons (pe_cd Dl Gl hr (pa_cons (pv 0) (pa_cons (pv 2) pa_nil))) pa_nil)))) pa_nil)))
    (pss_one (ps_ret (pe_callTy call_tupF rfl B.tuple bt_tuple (pa_cons (pv 3) pa_nil)))))))), ?_⟩
  have hsl : sizeLine = 16777216 := sizeLine_eq
  have nE : ∀ {b' : List Addr} {σ' : L2.St} {H' : Hp}, Kn b' H' → ED K b' (tTupF (tCons (tC (.str "name")) (tCons (tC (.str "n")) tNil))) σ' H' nD := fun {_ _ _} kn' => ed_tupS kn' (ea_cons ed_str (ea_cons ed_str ea_nil)) (Nat.le_of_ble_eq_true rfl)
  have n1E : ∀ {b' : List Addr} {σ' : L2.St} {H' : Hp}, Kn b' H' → ED K b' (tTupF (tCons (tC (.str "n")) tNil)) σ' H' (.tuple [.str "n"]) := fun {_ _ _} kn' => ed_tupS kn' (ea_cons ed_str ea_nil) (Nat.le_of_ble_eq_true rfl)
  refine g_setG (K := K) (b := b) (a := a) (n := 0) (k := 0) (P1 := fun d => ∃ j : Nat, d = .int (j : Nat) ∧ 2 ≤ j ∧ j ≤ 6) (eg_I0 (k := 0) (g := fun i j => i + j) (P1 := (· = .int 2)) (P2 := IntB 5) hab (eg_pure (fun _ _ _ => ed_int) rfl) (eg_take hab rfl (by decide) (by decide)) ?_) kn bg.any fun v1 d1 H1 x1 bg1 kn1 hv1 ⟨j, e1, j2, j6⟩ => ?_
  · rintro d e rfl ⟨r, rfl, r0, r1⟩
    exact ⟨2, r, rfl, rfl, (2 + r).toNat, by rw [Int.toNat_of_nonneg (by omega)], by omega, by omega⟩
  subst e1
  have ev1 := dq_int hv1
  subst ev1
  show tSeq _ _ _ [some (.ref a), some (.int (j : Nat)), none, none, none, none, none] H1
  have bg1 : Bag a 0 H1 := bg1
  refine g_slL (K := K) (b := b) (j := j) (xs := CN) (ea_cons ed_str (ea_cons ed_str (ea_cons ed_str (ea_cons ed_str (ea_cons ed_str (ea_cons ed_str ea_nil)))))) (by decide) (fun H' => ed_var (i := 1) rfl (.int _)) fun pn H2 hpn x2 h2 => ?_
  obtain ⟨nm, hnm⟩ : ∃ nm, nm = CN.take j := ⟨_, rfl⟩
  rw [← hnm] at h2
  have lnm : nm.length = j := by
    rw [hnm, List.length_take]
    show min j 6 = j
    omega
  have nmC : ∀ x ∈ nm, x ∈ CN := fun x hx => by
    rw [hnm] at hx
    exact List.mem_of_mem_take hx
  have nmnd : nm.Nodup := by
    rw [hnm]
    exact (List.take_sublist j CN).nodup CN_nd
  have nmok : ∀ x ∈ nm, PyData.strOk x = true := fun x hx => CN_ok x (nmC x hx)
  obtain ⟨hs, hhs⟩ : ∃ hs : Hds, hs = nm.map fun x => (x, 1) := ⟨_, rfl⟩
  have nmhs : ∀ x ∈ nm, (x, 1) ∈ hs := fun x hx => by rw [hhs]; exact List.mem_map.mpr ⟨x, hx, rfl⟩
  show tSeq _ _ _ [some (.ref a), some (.int (j : Nat)), some (.ref pn), none, none, none, none] H2
  have pb : pn ∉ b := kn1.new hpn
  have bg2 := bg1.ex x2
  have kn2 := kn1.up x2
  have hpd : Dq K b H2 (.ref pn) (.list (nm.map .str)) := .lst (.inl (.inl (by rw [hid_ne pb]; exact h2))) (strs_dps nm)
  refine g_lstF (K := K) (b := b) (i := 3) (ds := []) kn2 ea_nil (by decide) fun F vF H3 hF x3 h3 dF => ?_
  cases dF
  show tSeq _ _ _ [some (.ref a), some (.int (j : Nat)), some (.ref pn), some (.ref F), none, none, none] H3
  have bg3 := bg2.ex x3
  have Fa : F ≠ a := fun e => bg2.there (e ▸ hF)
  have Fb : F ∉ b := kn2.new hF
  have hab2 : a ∈ F :: b := List.mem_cons_of_mem _ hab
  have hpF : Dq K (F :: b) H3 (.ref pn) (.list (nm.map .str)) := dp_ex (hid_ex x3) _ _ (Dq.hide hpd hF)
  have kn3 : Kn (F :: b) H3 := fun c hc => by
    rcases List.mem_cons.mp hc with rfl | hc
    · rw [h3]; intro z; cases z
    · exact (kn2.up x3) c hc
  have upF : ∀ {H' : Hp} {v : V} {d : PyData}, (∀ c o, c ≠ a → c ≠ F → H3 c = some o → H' c = some o) → Dq K (F :: b) H3 v d → Dq K (F :: b) H' v d := fun {H' v d} hg h => dp_ex (fun c o z => by
    obtain ⟨z1, z2⟩ := hid_some z
    rw [hid_ne z1]
    exact hg c o (fun e => z1 (e ▸ hab2)) (fun e => z1 (by rw [e]; exact List.mem_cons_self)) z2) _ _ h
  have cnt := ed_sub (K := K) (b := b) (ed_var (σ := [some (.ref a), some (.int (j : Nat)), some (.ref pn), some (.ref F), none, none, none]) (H := H3) (i := 1) (d := .int (j : Nat)) rfl (.int _)) (ed_int (i := 1))
  refine g_forR (K := K) (b := b) (N := (j : Nat) - 1) (fun i σ' H' => (∃ y4 y5 y6, σ' = [some (.ref a), some (.int (j : Nat)), some (.ref pn), some (.ref F), y4, y5, y6]) ∧ (∀ c o, c ≠ a → c ≠ F → H3 c = some o → H' c = some o) ∧ Bag a 0 H' ∧ ∃ (vs : List V) (ts : List Tup), H' F = some (.lst vs) ∧ DqAll K (F :: b) H' vs (ts.map Tup') ∧ ts.length = i ∧ ts.map (·.1) = nm.take i ∧ ∀ e ∈ ts, e.2.1 = n1 ∧ ∀ s ∈ e.2.2, SaP hs 3 3 s) cnt (by omega) (by omega)
    (fun H4 x4 => ⟨⟨none, none, none, rfl⟩, fun c o _ _ z => x4 _ _ z, bg3.ex x4, [], [], x4 _ _ h3, .nil, rfl, rfl, fun e h => nomatch h⟩) ?_ ?_
  · rintro i σ' H4 hi ⟨⟨y4, y5, y6, rfl⟩, hg, bg4, vs, ts, hF4, hds, lts, tnm, tok⟩
    have hi : i + 1 < nm.length := by omega
    have kn4 : Kn (F :: b) H4 := fun c hc z => by
      rcases List.mem_cons.mp hc with rfl | hc
      · rw [hF4] at z; cases z
      · by_cases e : c = a
        · subst e; exact bg4.there z
        · have hcF : c ≠ F := fun e => Fb (e ▸ hc)
          cases y : H3 c with
          | none => exact kn3 c (List.mem_cons_of_mem _ hc) y
          | some o => rw [hg c o e hcF y] at z; cases z
    show tSeq _ _ _ [some (.ref a), some (.int (j : Nat)), some (.ref pn), some (.ref F), some (.int (0 + (i : Int))), y5, y6] H4
    rw [Int.zero_add]
    have hp4 := upF hg hpF
    have a1 : atI (nm.map PyData.str) (((i : Nat) : Int) + 1) = some (.str nm[i + 1]) := by
      have : (((i : Nat) : Int) + 1) = ((i + 1 : Nat) : Int) := rfl
      rw [this]
      exact atI_nat (by rw [List.getElem?_map, List.getElem?_eq_getElem hi]; rfl)
    have a0 : atI (nm.map PyData.str) ((i : Nat) : Int) = some (.str nm[i]) := atI_nat (by rw [List.getElem?_map, List.getElem?_eq_getElem (by omega)]; rfl)
    have m1 : nm[i + 1] ∈ nm := List.getElem_mem hi
    have lc := eg_lcRL (K := K) (b := F :: b) (a := a) (n := 0) (m := 0) (i0 := 6) (c := 0) (u := 3) (lo := 1) (R := fun _ d => SaP hs 3 3 d) (ta := tOp (rI0 fun i j => .int (i + j)) (tC (.int 1)) (tCall (spTake K) [] E0 (tCons (tVar 0) (tCons (tC (.int 2)) tNil)))) (te := tCall (spCa K) [] E0 (tCons (tVar 0) (tCons (tOp (rIxL K) (tVar 2) (tOp (rI0 fun i j => .int (i + j)) (tVar 4) (tC (.int 1)))) tNil))) (σ := [some (.ref a), some (.int (j : Nat)), some (.ref pn), some (.ref F), some (.int (i : Nat)), y5, y6]) (H := H4) hab2
      (eg_I0 (k := 0) (g := fun i j => i + j) (P1 := (· = .int 1)) (P2 := IntB 2) hab2 (eg_pure (fun _ _ _ => ed_int) rfl) (eg_take hab2 rfl (by decide) (by decide)) (by
        rintro d e rfl ⟨r, rfl, r0, r1⟩
        exact ⟨1, r, rfl, rfl, (1 + r).toNat, by rw [Int.toNat_of_nonneg (by omega)], by omega, by omega⟩)) (by decide)
      (fun Dl i2 f2 H0 H1 hi2 z0 hD z1 => eg_call (c := 0) (S := fun ds => ∃ d r, ds = d :: r ∧ d = .str nm[i + 1] ∧ r = []) (List.mem_cons_of_mem _ hab2) rfl
        (ega_cons (k := f2) (P := (· = .str nm[i + 1])) (List.mem_cons_of_mem _ hab2) (eg_pure (fun H2' x2' kn2' => ed_ixL (ed_var (i := 2) rfl (Dq.upB (List.mem_cons_of_mem _ hab2) (dp_ex (hid_exB (List.mem_cons_of_mem _ hab2) z1) _ _ (Dq.hide (hp4.upB hab2 z0) hD)) x2')) (ed_add (ed_var (i := 4) rfl (.int _)) (ed_int (i := 1))) a1) rfl) ega_nil)
        (fun ds ⟨d, r, e, e2, e3⟩ => ⟨nm[i + 1], by rw [e, e2, e3], nmok _ m1⟩) fun ds d ⟨d', r, e, e2, e3⟩ ⟨x', e4, h⟩ => by
          rw [e, e2, e3] at e4
          injection e4 with e4 _
          injection e4 with e4
          subst e4
          exact h hs (nmhs _ m1))
    refine g_setG (K := K) (b := F :: b) (a := a) (n := 0) (k := 0) (P1 := fun d => ∃ ss, d = .tuple ss ∧ ss.length ≤ 3 ∧ ∀ s ∈ ss, SaP hs 3 3 s) (eg_tupOf (EG.any lc) ?_) kn4 bg4 fun v5 d5 H5 x5 bg5 kn5 hv5 ⟨ss, e5, l5, hss⟩ => ?_
    · rintro d ⟨ds, rfl, _, hl, hR⟩
      refine ⟨ds, rfl, ds, rfl, by omega, fun e he => ?_⟩
      obtain ⟨i, hi, ei⟩ := List.mem_iff_getElem.mp he
      exact hR i e (by rw [List.getElem?_eq_getElem hi, ei])
    subst e5
    show tDrop _ _ [some (.ref a), some (.int (j : Nat)), some (.ref pn), some (.ref F), some (.int (i : Nat)), some v5, y6] H5
    have hF5 := x5 _ _ Fa hF4
    have lvs := dps_len hds
    rw [List.length_map, lts] at lvs
    refine g_app (K := K) (b := F :: b) (j := 3) rfl hF5 (by omega) (ed_tupS (ds := [.str nm[i], .tuple [.str "n"], .tuple (ss ++ [.tuple [.str "say", nD]])]) kn5 (ea_cons (ed_ixL (ed_var (i := 2) rfl (hp4.upB hab2 x5)) (ed_var (i := 4) rfl (.int _)) a0) (ea_cons (n1E kn5) (ea_cons (ed_catT kn5 (ed_var (i := 5) rfl hv5) (ed_tupS kn5 (ea_cons (ed_tupS kn5 (ea_cons ed_str (ea_cons (nE kn5) ea_nil)) (Nat.le_of_ble_eq_true rfl)) ea_nil) (Nat.le_of_ble_eq_true rfl)) (by rw [hsl]; show ss.length + 1 ≤ 16777216; omega)) ea_nil))) (Nat.le_of_ble_eq_true rfl)) fun y H6 x6 hy => ?_
    refine ⟨⟨_, _, _, rfl⟩, fun c o ca cF z => ?_, bag_upd (bg5.ex x6) Fa, vs ++ [y], ts ++ [mkT nm[i] (ss ++ [.tuple [.str "say", nD]])], upd_same, ?_, by rw [List.length_append, lts]; rfl, ?_, fun e he => ?_⟩
    · rw [upd_ne cF]
      exact x6 _ _ (x5 _ _ ca (hg c o ca cF z))
    · rw [List.map_append]
      exact dps_ex put_ex _ _ (dps_app (DqAll.up (DqAll.upB hab2 hds x5) x6) (.cons hy .nil))
    · rw [List.map_append, tnm, List.take_add_one, List.getElem?_eq_getElem (show i < nm.length by omega)]
      rfl
    · rcases List.mem_append.mp he with he | he
      · exact tok e he
      · rw [List.mem_singleton.mp he]
        refine ⟨rfl, fun s hs' => ?_⟩
        rcases List.mem_append.mp hs' with hs' | hs'
        · exact hss s hs'
        · rw [List.mem_singleton.mp hs']
          exact .one (by decide +kernel) nD_v
  · rintro σ' H4 ⟨⟨y4, y5, y6, rfl⟩, hg, bg4, vs, ts, hF4, hds, lts, tnm, tok⟩
    have lts : ts.length = j - 1 := by omega
    have kn4 : Kn (F :: b) H4 := fun c hc z => by
      rcases List.mem_cons.mp hc with rfl | hc
      · rw [hF4] at z; cases z
      · by_cases e : c = a
        · subst e; exact bg4.there z
        · have hcF : c ≠ F := fun e => Fb (e ▸ hc)
          cases y : H3 c with
          | none => exact kn3 c (List.mem_cons_of_mem _ hc) y
          | some o => rw [hg c o e hcF y] at z; cases z
    have hp4 := upF hg hpF
    have lvs := dps_len hds
    rw [List.length_map] at lvs
    have hl1 : nm.length - 1 < nm.length := by omega
    have aL : atI (nm.map PyData.str) (-1) = some (.str nm[nm.length - 1]) := atI_last (by rw [List.length_map, List.getElem?_map, List.getElem?_eq_getElem hl1]; rfl)
    refine g_appG (K := K) (b := F :: b) (a := a) (n := 0) (m := 0) (j := 3) (P := fun d => ∃ ss, d = Tup' (mkT nm[nm.length - 1] ss) ∧ ∀ s ∈ ss, SaP hs 3 1 s) rfl hF4 Fa (by omega) (eg_tup (ega_cons (k := 0) (P := (· = .str nm[nm.length - 1])) hab2 (eg_pure (fun H5 x5 kn5 => ed_ixL (ed_var (i := 2) rfl (hp4.upB hab2 x5)) (ed_neg (ed_int (i := 1))) aL) rfl) (ega_cons (k := 0) (P := (· = .tuple [.str "n"])) hab2 (eg_pure (fun H5 x5 kn5 => n1E kn5) rfl)
      (ega_cons (k := 0) (P := fun d => ∃ ss, d = .tuple ss ∧ ∀ s ∈ ss, SaP hs 3 1 s) hab2 (eg_call (c := 0) (S := fun ds => ∃ d r, ds = d :: r ∧ d = .list (nm.map .str) ∧ r = []) hab2 rfl (ega_cons (k := 0) (P := (· = .list (nm.map .str))) hab2 (eg_var (i := 2) rfl hab2 hp4 rfl) ega_nil) (fun ds ⟨d, r, e, e2, e3⟩ => ⟨nm, by rw [e, e2, e3], by omega, by omega, nmok⟩) ?_) ega_nil))) ?_) kn4 bg4 fun y d H5 x5 bg5 kn5 hy ⟨ss, e5, hss⟩ => ?_
    · rintro ds d ⟨d', r, e, e2, e3⟩ ⟨nm', ss, e4, e5, h⟩
      rw [e, e2, e3] at e4
      injection e4 with e4 _
      injection e4 with e4
      have enm : nm' = nm := by
        have := congrArg (List.map fun d => match d with | PyData.str x => x | _ => "") e4
        rw [List.map_map, List.map_map] at this
        have id1 : ((fun d => match d with | PyData.str x => x | _ => "") ∘ PyData.str) = (id : Str → Str) := rfl
        rw [id1, List.map_id, List.map_id] at this
        exact this.symm
      subst enm
      exact ⟨ss, e5, h hs nmhs⟩
    · rintro l ⟨e1, r1, rfl, rfl, e2, r2, rfl, rfl, e3, r3, rfl, ⟨ss, rfl, h⟩, rfl⟩
      exact ⟨by rw [hsl]; show 3 ≤ 16777216; decide, ss, rfl, h⟩
    subst e5
    have hF6 : (upd H5 F (.lst (vs ++ [y]))) F = some (.lst (vs ++ [y])) := upd_same
    have d6 : DqAll K (F :: b) (upd H5 F (.lst (vs ++ [y]))) (vs ++ [y]) ((ts ++ [mkT nm[nm.length - 1] ss]).map Tup') := by
      rw [List.map_append]
      exact dps_ex put_ex _ _ (dps_app (DqAll.upB hab2 hds x5) (.cons hy .nil))
    refine ⟨.ref F, rfl, F, _, rfl, .inl (.inl hF6), fun l o hl ho => ?_⟩
    have bg6 : Bag a 0 (upd H5 F (.lst (vs ++ [y]))) := bag_upd bg5 Fa
    have kn6 : Kn b (upd H5 F (.lst (vs ++ [y]))) := fun c hc => by
      rw [upd_ne (fun e => Fb (by rw [← e]; exact hc))]
      exact kn5 c (List.mem_cons_of_mem _ hc)
    have tsnm : (ts ++ [mkT nm[nm.length - 1] ss]).map (·.1) = nm := by
      rw [List.map_append, tnm]
      have e1 : (((j : Nat) : Int) - 1).toNat = nm.length - 1 := by omega
      rw [e1]
      have := List.take_append_getElem (l := nm) hl1
      have e2 : nm.length - 1 + 1 = nm.length := by omega
      rw [e2, List.take_length] at this
      exact this
    have tall : ∀ e ∈ ts ++ [mkT nm[nm.length - 1] ss], e.2.1 = n1 ∧ ∀ s ∈ e.2.2, SaP hs 3 3 s := fun e he => by
      rcases List.mem_append.mp he with he | he
      · exact tok e he
      · rw [List.mem_singleton.mp he]
        exact ⟨rfl, fun s h => sap_up (sap_up (hss s h))⟩
    have nd : ((ts ++ [mkT nm[nm.length - 1] ss]).map (·.1)).Nodup := by rw [tsnm]; exact nmnd
    have ehs : hs = (ts ++ [mkT nm[nm.length - 1] ss]).map fun e => (e.1, e.2.1.length) := by
      rw [hhs]
      conv => lhs; rw [← tsnm]
      rw [List.map_map]
      refine List.map_congr_left fun e he => ?_
      show (e.1, 1) = (e.1, e.2.1.length)
      rw [(tall e he).1]
      rfl
    refine q _ (treeT (ts ++ [mkT nm[nm.length - 1] ss])) _ (fun c o ca z => ?_) (bg6.ex (Ex.new hl)).any (dq_newT kn6 hl ho (dps_ex show_ex _ _ d6)) ⟨hs, _, rfl, tt_of ehs nd fun e he => ?_, by rw [List.length_append]; show 0 < ts.length + 1; omega, by rw [List.length_append]; show ts.length + 1 ≤ 6; omega, fun e he => ⟨tof_mem nd he, by rw [(tall e he).1]; rfl⟩⟩
    · have z1 : H1 c = some o := x1 c o ca z
      have z2 := x2 _ _ z1
      have c2 : c ≠ F := fun e => by rw [e, hF] at z2; cases z2
      refine Ex.new hl _ _ ?_
      rw [upd_ne c2]
      exact x5 _ _ ca (hg c o ca c2 (x3 _ _ z2))
    · obtain ⟨e1, e2⟩ := tall e he
      exact ⟨by rw [e1]; show 1 ≤ 10; decide, by rw [e1]; show ([("n" : Str)].all PyData.strOk) = true; decide +kernel, 3, 3, ⟨by decide, by decide⟩, e2⟩
end
end Wr

set_option Elab.async false
set_option linter.all false
set_option maxRecDepth 100000
set_option maxHeartbeats 4000000
namespace Wr
open PySem PySem.Spec PyProof.Rows L2 Evl
def hs1 : Hds := [("a", 1)]
theorem ha1 : (("a" : Str), 1) ∈ hs1 := List.mem_cons_self
theorem one_tt {ss : List PyData} (h : ∀ d ∈ ss, SaP hs1 3 3 d) : TtOk hs1 6 (tOf [mkT "a" ss]) := tt_of rfl (List.nodup_cons.mpr ⟨List.not_mem_nil, List.nodup_nil⟩) fun e he => by
  rw [List.mem_singleton.mp he]
  exact ⟨by show 1 ≤ 10; decide, (show ([("n" : Str)].all PyData.strOk) = true by decide +kernel), 3, 3, ⟨by decide, by decide⟩, h⟩
def TreA (d : PyData) : Prop := ∃ (hs : Hds) (ts : List Tup) (ss : List PyData), d = treeT ts ∧ TtOk hs 6 (tOf ts) ∧ ts.length ≤ 100 ∧ tOf ts "a" = some ((n1, ss) : List Str × List PyData)
def TreL (d : PyData) : Prop := ∃ ds, d = .list ds ∧ ds.length ≤ 10 ∧ ∀ t ∈ ds, TreA t
theorem treA1 {ss : List PyData} (h : ∀ d ∈ ss, SaP hs1 3 3 d) : TreA (treeT [mkT "a" ss]) := ⟨hs1, _, ss, rfl, one_tt h, by show 1 ≤ 100; decide, rfl⟩
def firstD (d2 : PyData) : PyData := .tuple [.str "if", nD, .tuple [.tuple [.str "back", .tuple [.str "call", .str "a", .tuple [.tuple [.str "less", nD, .int 1]]]]], .tuple [.tuple [.str "back", .tuple [.str "call", .str "a", .tuple [d2]]]]]
def guaD (d2 : PyData) : PyData := .tuple [.str "try", .tuple [(firstD d2)], .str "f", .tuple [.tuple [.str "say", .tuple [.str "name", .str "f"]], .tuple [.str "throw", .tuple [.str "name", .str "f"]]]]
theorem first_p {d2 : PyData} (hb : VaP hs1 2 d2) {n : Nat} : SaP hs1 3 (n + 2) (firstD d2) := by
  have ha := ha1
  exact (.ite nD_v (all_cons (.one (by decide +kernel) (.call ha (by decide +kernel) (all_cons (.op (by decide +kernel) nD_v (.num ⟨by decide, by decide⟩)) all_nil))) all_nil) (all_cons (.one (by decide +kernel) (.call ha (by decide +kernel) (all_cons hb all_nil))) all_nil))
theorem gua_p {d2 : PyData} (hb : VaP hs1 2 d2) : SaP hs1 3 3 (guaD d2) := by
  exact (.tri (by decide +kernel) (all_cons (first_p hb) all_nil) (all_cons (.one (by decide +kernel) (.name (by decide +kernel))) (all_cons (.one (by decide +kernel) (.name (by decide +kernel))) all_nil)))
abbrev s_dp : Stmt := topS 31
abbrev NDp : List Str := ["_law_bag_here", "_law_n", "_law_bad", "_law_first", "_law_guarded"]
theorem sc_dp : FnScope NDp ["_law_bag_here"] (defScope s_dp) := ⟨rfl, rfl, rfl, by decide +kernel, rfl, by decide +kernel, by decide +kernel⟩
section
variable {P : Program} {w : World} {K : PySem.W.Frag} {mg : Str → Option Value} {base : Heap} {f g : Addr} {fd gd : FuncData}
theorem ok_dp (D : Def K mg "_law_deepest" s_dp ["_law_bag_here"] f fd) (Dt : Def K mg "_law_take" s_take ["_law_bag_here", "_law_many"] g gd) : FnOk P w K mg base CX0 2 f fd ["_law_bag_here"] (spG K 0 (· = []) fun _ d => TreL d) := by
  refine D.F.ok sc_dp (fun vs H Q E h => spG_len (fun ds e => by rw [e]; rfl) h) (fun cdv A outer s H vs Q E hr h => ?_)
  obtain ⟨b, a, k0, ws, ds, rfl, hab, kn, bg, hd, rfl, q⟩ := h
  cases hd
  have Gt := ok_take (P := P) (w := w) (base := base) Dt
  refine ⟨_, pss_cons (ps_set (i := 1) sc_dp.nd rfl (Or.inl rfl) (pe_tupF (pa_cons pe_str (pa_cons pe_str pa_nil))))
    (pss_cons (ps_set (i := 2) sc_dp.nd rfl (Or.inl rfl) (pe_ix ix_list (pe_lst (pa_cons (pe_tupF (pa_cons pe_str (pa_cons pe_int (pa_cons (pv 1) pa_nil)))) (pa_cons (pe_tupF (pa_cons pe_str (pa_cons (pe_op op_pow pe_int pe_int) (pa_cons pe_int pa_nil)))) (pa_cons (pe_tupF (pa_cons pe_str (pa_cons pe_str pa_nil))) (pa_cons (pe_tupF (pa_cons pe_str (pa_cons pe_str (pa_cons (pe_tupF (pa_cons pe_int pa_nil)) pa_nil)))) (pa_cons (pv 1) pa_nil)))))) (pe_cd Dt Gt (hr.mono (by decide)) (pa_cons (pv 0) (pa_cons pe_int pa_nil))) (fun _ _ => rfl)))
    (pss_cons (ps_set (i := 3) sc_dp.nd rfl (Or.inl rfl) (pe_tupF (pa_cons pe_str (pa_cons (pv 1) (pa_cons (pe_tupF (pa_cons (pe_tupF (pa_cons pe_str (pa_cons (pe_tupF (pa_cons pe_str (pa_cons pe_str (pa_cons (pe_tupF (pa_cons (pe_tupF (pa_cons pe_str (pa_cons (pv 1) (pa_cons pe_int pa_nil)))) pa_nil)) pa_nil)))) pa_nil))) pa_nil)) (pa_cons (pe_tupF (pa_cons (pe_tupF (pa_cons pe_str (pa_cons (pe_tupF (pa_cons pe_str (pa_cons pe_str (pa_cons (pe_tupF (pa_cons (pv 2) pa_nil)) pa_nil)))) pa_nil))) pa_nil)) pa_nil))))))
    (pss_cons (ps_set (i := 4) sc_dp.nd rfl (Or.inl rfl) (pe_tupF (pa_cons pe_str (pa_cons (pe_tupF (pa_cons (pv 3) pa_nil)) (pa_cons pe_str (pa_cons (pe_tupF (pa_cons (pe_tupF (pa_cons pe_str (pa_cons (pe_tupF (pa_cons pe_str (pa_cons pe_str pa_nil))) pa_nil))) (pa_cons (pe_tupF (pa_cons pe_str (pa_cons (pe_tupF (pa_cons pe_str (pa_cons pe_str pa_nil))) pa_nil))) pa_nil))) pa_nil))))))
    (pss_one (ps_ret (pe_lst (pa_cons (pe_tupF (pa_cons (pe_tupF (pa_cons pe_str (pa_cons (pe_tupF (pa_cons pe_str pa_nil)) (pa_cons (pe_tupF (pa_cons (pv 3) pa_nil)) pa_nil)))) pa_nil)) (pa_cons (pe_tupF (pa_cons (pe_tupF (pa_cons pe_str (pa_cons (pe_tupF (pa_cons pe_str pa_nil)) (pa_cons (pe_tupF (pa_cons (pv 4) pa_nil)) pa_nil)))) pa_nil)) pa_nil)))))))), ?_⟩
  have hsl : sizeLine = 16777216 := sizeLine_eq
  have vn : VaP hs1 1 nD := nD_v
  have ha := ha1
  refine GS.fin (n := 0) (m := 0) (P := TreL) (gs_set (k := 0) (P1 := (· = nD)) (eg_pure (fun H9 x9 kn9 => (ed_tupS kn9 (ea_cons (ed_str (x := "name")) (ea_cons (ed_str (x := "n")) ea_nil)) (Nat.le_of_ble_eq_true rfl))) rfl) fun v1 d1 H1 x1 h1 e1 => ?_) kn bg.any fun v d H' x' bg' hv p => q v d H' x' bg'.any hv p
  subst e1
  refine gs_set (k := 0) (P1 := VaP hs1 2) (eg_pick (ds := [.tuple [.str "over", .int 1, nD], .tuple [.str "times", .int 1000000000000, .int 2], .tuple [.str "name", .str "z"], .tuple [.str "call", .str "a", .tuple [.int 0]], nD]) hab rfl (fun H9 x9 kn9 => (ea_cons (ed_tupS kn9 (ea_cons (ed_str (x := "over")) (ea_cons (ed_int (i := 1)) (ea_cons (ed_var (i := 1) rfl (h1.upB hab x9)) ea_nil))) (Nat.le_of_ble_eq_true rfl)) (ea_cons (ed_tupS kn9 (ea_cons (ed_str (x := "times")) (ea_cons (ed_I (z := .int 1000000000000) (ed_int (i := 10)) (ed_int (i := 12)) ⟨by decide, by decide, by decide⟩ fun _ => .int _) (ea_cons (ed_int (i := 2)) ea_nil))) (Nat.le_of_ble_eq_true rfl)) (ea_cons (ed_tupS kn9 (ea_cons (ed_str (x := "name")) (ea_cons (ed_str (x := "z")) ea_nil)) (Nat.le_of_ble_eq_true rfl)) (ea_cons (ed_tupS kn9 (ea_cons (ed_str (x := "call")) (ea_cons (ed_str (x := "a")) (ea_cons (ed_tupS kn9 (ea_cons (ed_int (i := 0)) ea_nil) (Nat.le_of_ble_eq_true rfl)) ea_nil))) (Nat.le_of_ble_eq_true rfl)) (ea_cons (ed_var (i := 1) rfl (h1.upB hab x9)) ea_nil)))))) rfl (Nat.le_of_ble_eq_true rfl) (Nat.le_of_ble_eq_true rfl) ?_) fun v2 d2 H2 x2 h2 hb => ?_
  · exact (all_cons (.op (by decide +kernel) (.num ⟨by decide, by decide⟩) nD_v) (all_cons (.op (by decide +kernel) (.num ⟨by decide, by decide⟩) (.num ⟨by decide, by decide⟩)) (all_cons (.name (by decide +kernel)) (all_cons (.call ha (by decide +kernel) (all_cons (.num ⟨by decide, by decide⟩) all_nil)) (all_cons nD_v all_nil)))))
  refine gs_set (k := 0) (P1 := (· = firstD d2)) (eg_pure (d := firstD d2) (fun H9 x9 kn9 => (ed_tupS kn9 (ea_cons (ed_str (x := "if")) (ea_cons (ed_var (i := 1) rfl (((h1.upB hab x2).upB hab x9))) (ea_cons (ed_tupS kn9 (ea_cons (ed_tupS kn9 (ea_cons (ed_str (x := "back")) (ea_cons (ed_tupS kn9 (ea_cons (ed_str (x := "call")) (ea_cons (ed_str (x := "a")) (ea_cons (ed_tupS kn9 (ea_cons (ed_tupS kn9 (ea_cons (ed_str (x := "less")) (ea_cons (ed_var (i := 1) rfl (((h1.upB hab x2).upB hab x9))) (ea_cons (ed_int (i := 1)) ea_nil))) (Nat.le_of_ble_eq_true rfl)) ea_nil) (Nat.le_of_ble_eq_true rfl)) ea_nil))) (Nat.le_of_ble_eq_true rfl)) ea_nil)) (Nat.le_of_ble_eq_true rfl)) ea_nil) (Nat.le_of_ble_eq_true rfl)) (ea_cons (ed_tupS kn9 (ea_cons (ed_tupS kn9 (ea_cons (ed_str (x := "back")) (ea_cons (ed_tupS kn9 (ea_cons (ed_str (x := "call")) (ea_cons (ed_str (x := "a")) (ea_cons (ed_tupS kn9 (ea_cons (ed_var (i := 2) rfl (h2.upB hab x9)) ea_nil) (Nat.le_of_ble_eq_true rfl)) ea_nil))) (Nat.le_of_ble_eq_true rfl)) ea_nil)) (Nat.le_of_ble_eq_true rfl)) ea_nil) (Nat.le_of_ble_eq_true rfl)) ea_nil)))) (Nat.le_of_ble_eq_true rfl))) rfl) fun v3 d3 H3 x3 h3 e3 => ?_
  subst e3
  refine gs_set (k := 0) (P1 := (· = guaD d2)) (eg_pure (d := guaD d2) (fun H9 x9 kn9 => (ed_tupS kn9 (ea_cons (ed_str (x := "try")) (ea_cons (ed_tupS kn9 (ea_cons (ed_var (i := 3) rfl (h3.upB hab x9)) ea_nil) (Nat.le_of_ble_eq_true rfl)) (ea_cons (ed_str (x := "f")) (ea_cons (ed_tupS kn9 (ea_cons (ed_tupS kn9 (ea_cons (ed_str (x := "say")) (ea_cons (ed_tupS kn9 (ea_cons (ed_str (x := "name")) (ea_cons (ed_str (x := "f")) ea_nil)) (Nat.le_of_ble_eq_true rfl)) ea_nil)) (Nat.le_of_ble_eq_true rfl)) (ea_cons (ed_tupS kn9 (ea_cons (ed_str (x := "throw")) (ea_cons (ed_tupS kn9 (ea_cons (ed_str (x := "name")) (ea_cons (ed_str (x := "f")) ea_nil)) (Nat.le_of_ble_eq_true rfl)) ea_nil)) (Nat.le_of_ble_eq_true rfl)) ea_nil)) (Nat.le_of_ble_eq_true rfl)) ea_nil)))) (Nat.le_of_ble_eq_true rfl))) rfl) fun v4 d4 H4 x4 h4 e4 => ?_
  subst e4
  exact gs_ret (eg_pure (d := .list [treeT [mkT "a" [firstD d2]], treeT [mkT "a" [guaD d2]]]) (fun H9 x9 kn9 => ed_lst kn9 (ea_cons (ed_tupS kn9 (ea_cons (ed_tupS kn9 (ea_cons (ed_str (x := "a")) (ea_cons (ed_tupS kn9 (ea_cons (ed_str (x := "n")) ea_nil) (Nat.le_of_ble_eq_true rfl)) (ea_cons (ed_tupS kn9 (ea_cons (ed_var (i := 3) rfl ((h3.upB hab x4).upB hab x9)) ea_nil) (Nat.le_of_ble_eq_true rfl)) ea_nil))) (Nat.le_of_ble_eq_true rfl)) ea_nil) (Nat.le_of_ble_eq_true rfl)) (ea_cons (ed_tupS kn9 (ea_cons (ed_tupS kn9 (ea_cons (ed_str (x := "a")) (ea_cons (ed_tupS kn9 (ea_cons (ed_str (x := "n")) ea_nil) (Nat.le_of_ble_eq_true rfl)) (ea_cons (ed_tupS kn9 (ea_cons (ed_var (i := 4) rfl (h4.upB hab x9)) ea_nil) (Nat.le_of_ble_eq_true rfl)) ea_nil))) (Nat.le_of_ble_eq_true rfl)) ea_nil) (Nat.le_of_ble_eq_true rfl)) ea_nil)) (by rw [hsl]; show 2 ≤ 16777216; decide)) ⟨_, rfl, by show 2 ≤ 10; decide, all_cons (treA1 (all_cons (first_p hb) all_nil)) (all_cons (treA1 (all_cons (gua_p hb) all_nil)) all_nil)⟩)
end
end Wr

set_option Elab.async false
set_option linter.all false
set_option maxRecDepth 100000
set_option maxHeartbeats 4000000
namespace Wr
open PySem PySem.Spec PyProof.Rows L2 Evl
def yD : PyData := .tuple [.str "name", .str "y"]
theorem yD_v {hs : Hds} {n : Nat} : VaP hs (n + 1) yD := .name (by decide +kernel)
def downD : PyData := .tuple [.str "if", nD, .tuple [.tuple [.str "say", .tuple [.str "call", .str "a", .tuple [.tuple [.str "less", nD, .int 1]]]]], .tuple []]
def asksD : PyData := .tuple [.str "try", .tuple [.tuple [.str "say", yD]], .str "f", .tuple [.tuple [.str "say", .tuple [.str "name", .str "f"]]]]
def callsD : PyData := .tuple [.str "try", .tuple [.tuple [.str "set", .str "x", .tuple [.str "call", .str "b", .tuple []]]], .str "f", .tuple [.tuple [.str "say", .tuple [.str "name", .str "f"]]]]
theorem down_p {hs : Hds} (ha : (("a" : Str), 1) ∈ hs) {n : Nat} : SaP hs 3 (n + 2) downD := (.ite nD_v (all_cons (.one (by decide +kernel) (.call ha (by decide +kernel) (all_cons (.op (by decide +kernel) nD_v (.num ⟨by decide, by decide⟩)) all_nil))) all_nil) all_nil)
theorem asks_p {hs : Hds} {n : Nat} : SaP hs 3 (n + 2) asksD := (.tri (by decide +kernel) (all_cons (.one (by decide +kernel) yD_v) all_nil) (all_cons (.one (by decide +kernel) (.name (by decide +kernel))) all_nil))
theorem calls_p {hs : Hds} (hb : (("b" : Str), 0) ∈ hs) {n : Nat} : SaP hs 3 (n + 2) callsD := (.tri (by decide +kernel) (all_cons (.set (by decide +kernel) (.call hb (by decide +kernel) all_nil)) all_nil) (all_cons (.one (by decide +kernel) (.name (by decide +kernel))) all_nil))
def T1b : List PyData := [.tuple [.str "say", yD], .tuple [.str "set", .str "y", .int 4]]
def T1a : List PyData := [callsD, callsD, .tuple [.str "say", nD]]
def T1L : List Tup := [("b", [], T1b), ("a", ["n"], T1a)]
def T2b : List PyData := [asksD, .tuple [.str "set", .str "y", .int 4], .tuple [.str "say", yD]]
def T2a : List PyData := [callsD, callsD, asksD]
def T2L : List Tup := [("b", [], T2b), ("a", ["n"], T2a)]
def T3a : List PyData := [asksD, .tuple [.str "set", .str "y", nD], downD, .tuple [.str "say", yD]]
def T3L : List Tup := [("a", ["n"], T3a)]
def hs0 : Hds := [("b", 0), ("a", 1)]
theorem hb0 : (("b" : Str), 0) ∈ hs0 := List.mem_cons_self
theorem ha0 : (("a" : Str), 1) ∈ hs0 := List.mem_cons_of_mem _ List.mem_cons_self
theorem T1b_p : ∀ d ∈ T1b, SaP hs0 3 3 d := by
  have ha := ha0
  have hb := hb0
  exact (all_cons (.one (by decide +kernel) yD_v) (all_cons (.set (by decide +kernel) (.num ⟨by decide, by decide⟩)) all_nil))
theorem T1a_p : ∀ d ∈ T1a, SaP hs0 3 3 d := by
  have ha := ha0
  have hb := hb0
  exact (all_cons (calls_p hb) (all_cons (calls_p hb) (all_cons (.one (by decide +kernel) nD_v) all_nil)))
theorem T2b_p : ∀ d ∈ T2b, SaP hs0 3 3 d := by
  have ha := ha0
  have hb := hb0
  exact (all_cons asks_p (all_cons (.set (by decide +kernel) (.num ⟨by decide, by decide⟩)) (all_cons (.one (by decide +kernel) yD_v) all_nil)))
theorem T2a_p : ∀ d ∈ T2a, SaP hs0 3 3 d := by
  have ha := ha0
  have hb := hb0
  exact (all_cons (calls_p hb) (all_cons (calls_p hb) (all_cons asks_p all_nil)))
theorem T3a_p : ∀ d ∈ T3a, SaP hs1 3 3 d := by
  have ha := ha1
  exact (all_cons asks_p (all_cons (.set (by decide +kernel) nD_v) (all_cons (down_p ha) (all_cons (.one (by decide +kernel) yD_v) all_nil))))
theorem tt2 {hs : Hds} {e1 e2 : Tup} (hd : hs = [e1, e2].map fun e => (e.1, e.2.1.length)) (nd : ([e1, e2].map (·.1)).Nodup) (h : ∀ e ∈ [e1, e2], e.2.1.length ≤ 10 ∧ (e.2.1.all PyData.strOk) = true) (p1 : ∀ s ∈ e1.2.2, SaP hs 3 3 s) (p2 : ∀ s ∈ e2.2.2, SaP hs 3 3 s) : TtOk hs 6 (tOf [e1, e2]) := tt_of hd nd fun e he => by
  obtain ⟨a1, a2⟩ := h e he
  refine ⟨a1, a2, 3, 3, ⟨by decide, by decide⟩, ?_⟩
  rcases List.mem_cons.mp he with rfl | he
  · exact p1
  · rw [List.mem_singleton.mp he]; exact p2
theorem fits2 {e1 e2 : Tup} (h1 : e1.2.1.length ≤ 10 ∧ (e1.2.1.all PyData.strOk) = true) (h2 : e2.2.1.length ≤ 10 ∧ (e2.2.1.all PyData.strOk) = true) : ∀ e ∈ [e1, e2], e.2.1.length ≤ 10 ∧ (e.2.1.all PyData.strOk) = true := fun e he => by
  rcases List.mem_cons.mp he with rfl | he
  · exact h1
  · rw [List.mem_singleton.mp he]; exact h2
theorem n1_fits : n1.length ≤ 10 ∧ (n1.all PyData.strOk) = true := ⟨by decide, by decide +kernel⟩
theorem n0_fits : ([] : List Str).length ≤ 10 ∧ (([] : List Str).all PyData.strOk) = true := ⟨by decide, rfl⟩
theorem T1_t : TreA (treeT T1L) := ⟨hs0, T1L, T1a, rfl, tt2 rfl (by decide +kernel) (fits2 n0_fits n1_fits) T1b_p T1a_p, by show 2 ≤ 100; decide, tof_mem (ts := T1L) (e := ("a", n1, T1a)) (by decide +kernel) (List.mem_cons_of_mem _ List.mem_cons_self)⟩
theorem T2_t : TreA (treeT T2L) := ⟨hs0, T2L, T2a, rfl, tt2 rfl (by decide +kernel) (fits2 n0_fits n1_fits) T2b_p T2a_p, by show 2 ≤ 100; decide, tof_mem (ts := T2L) (e := ("a", n1, T2a)) (by decide +kernel) (List.mem_cons_of_mem _ List.mem_cons_self)⟩
theorem T3_t : TreA (treeT T3L) := treA1 T3a_p
def tellsS : List PyData := [.tuple [.str "say", .tuple [.str "add", .tuple [.str "name", .str "x"], .tuple [.str "times", yD, .tuple [.str "name", .str "z"]]]]]
def tellsT : PyData := Tup' ("c", ["x", "y", "z"], tellsS)
def saysS : List PyData := [.tuple [.str "say", nD], .tuple [.str "back", nD]]
def saysT : PyData := Tup' ("b", n1, saysS)
def T4a (ts3 : List PyData) : List PyData := [.tuple [.str "say", .tuple [.str "call", .str "c", (.tuple ts3)]]]
def T4L (ts3 : List PyData) : List Tup := [("c", ["x", "y", "z"], tellsS), ("b", n1, saysS), ("a", n1, T4a ts3)]
def hs4 : Hds := [("c", 3), ("b", 1), ("a", 1)]
theorem hc4 : (("c" : Str), 3) ∈ hs4 := List.mem_cons_self
theorem hb4 : (("b" : Str), 1) ∈ hs4 := List.mem_cons_of_mem _ List.mem_cons_self
theorem tells_p4 : ∀ d ∈ tellsS, SaP hs4 3 3 d := (all_cons (.one (by decide +kernel) (.op (by decide +kernel) (.name (by decide +kernel)) (.op (by decide +kernel) yD_v (.name (by decide +kernel))))) all_nil)
theorem says_p4 : ∀ d ∈ saysS, SaP hs4 3 3 d := (all_cons (.one (by decide +kernel) nD_v) (all_cons (.one (by decide +kernel) nD_v) all_nil))
theorem T4_t {ts3 : List PyData} (l3 : ts3.length = 3) (h3 : ∀ d ∈ ts3, VaP hs4 3 d) : TreA (treeT (T4L ts3)) := by
  have ap : ∀ d ∈ T4a ts3, SaP hs4 4 1 d := all_cons (.one (by decide +kernel) (.call (by rw [l3]; exact hc4) (by decide +kernel) h3)) all_nil
  have nd : ((T4L ts3).map (·.1)).Nodup := (show ([("c" : Str), "b", "a"] : List Str).Nodup by decide +kernel)
  refine ⟨hs4, T4L ts3, T4a ts3, rfl, tt_of rfl nd fun e he => ?_, by show 3 ≤ 100; decide, tof_mem (ts := T4L ts3) (e := ("a", n1, T4a ts3)) nd (List.mem_cons_of_mem _ (List.mem_cons_of_mem _ List.mem_cons_self))⟩
  rcases List.mem_cons.mp he with rfl | he
  · exact ⟨by show 3 ≤ 10; decide, (show ([("x" : Str), "y", "z"].all PyData.strOk) = true by decide +kernel), 3, 3, ⟨by decide, by decide⟩, tells_p4⟩
  rcases List.mem_cons.mp he with rfl | he
  · exact ⟨n1_fits.1, n1_fits.2, 3, 3, ⟨by decide, by decide⟩, says_p4⟩
  · rw [List.mem_singleton.mp he]
    exact ⟨n1_fits.1, n1_fits.2, 4, 1, ⟨by decide, by decide⟩, ap⟩
def someL : List PyData := [.tuple [.str "call", .str "b", .tuple [nD]], .tuple [.str "call", .str "b", .tuple [.int 2]], .tuple [.str "over", .int 1, .tuple [.str "less", nD, nD]], .tuple [.str "name", .str "q"]]
def someX : PyData := .tuple [.str "times", .int 1000000000000, .tuple [.str "call", .str "b", .tuple [.int 7]]]
theorem some_p : ∀ d ∈ someL ++ [someX], VaP hs4 3 d := by
  have hb := hb4
  exact (all_cons (.call hb (by decide +kernel) (all_cons nD_v all_nil)) (all_cons (.call hb (by decide +kernel) (all_cons (.num ⟨by decide, by decide⟩) all_nil)) (all_cons (.op (by decide +kernel) (.num ⟨by decide, by decide⟩) (.op (by decide +kernel) nD_v nD_v)) (all_cons (.name (by decide +kernel)) (all_cons (.op (by decide +kernel) (.num ⟨by decide, by decide⟩) (.call hb (by decide +kernel) (all_cons (.num ⟨by decide, by decide⟩) all_nil))) all_nil)))))
abbrev s_an : Stmt := topS 32
abbrev NAn : List Str := ["_law_bag_here", "_law_n", "_law_y", "_law_down", "_law_asks", "_law_calls", "_law_found", "_law_some", "_law_three", "_law_tells", "_law_says", "_law_k"]
theorem sc_an : FnScope NAn ["_law_bag_here"] (defScope s_an) := ⟨rfl, rfl, rfl, by decide +kernel, rfl, by decide +kernel, by decide +kernel⟩
/-- a, b = x, y where both are displays of constants: stored from the left -/
theorem ps_parN {X : Cx} {i j : Nat} {x y : Str} {a b : Expr} {ta : TA} {px py pt pos : Pos} {kt k2 pt2} (hc : X.calm = true) (hN : X.N.Nodup) (hi : X.N[i]? = some x) (hj : X.N[j]? = some y)
    (hx : X.env.scope.names.lookup x = some .local) (hy : X.env.scope.names.lookup y = some .local) (ha : PA X [a, b] ta)
    (hw : PySem.swappedStores [.Tuple [.Name x px, .Name y py] kt pt] (.Tuple [a, b] k2 pt2) X.env = pure none)
    (hs : PySem.swapsWithSole [.Tuple [.Name x px, .Name y py] kt pt] (.Tuple [a, b] k2 pt2) pos.line X.env = pure false := by rfl) :
    PS X (.Assign [.Tuple [.Name x px, .Name y py] kt pt] (.Tuple [a, b] k2 pt2) pos) (tPar i j ta) := by
  refine ⟨fun pins s σ H D I h => ?_⟩
  rw [exec_Assign_arm, hs, hw]
  refine wpAny_bind (wpAny_standAt (wpAny_bind (wpAny_pure ?_)))
  rw [if_neg (by decide)]
  refine wpAny_bind (Tuple_ (thn (ha.run _ pins s σ H _ I h) fun us s1 ⟨vs, H1, I1, r1, q1⟩ => ?_))
  obtain ⟨v, w, e1, q1⟩ := q1
  subst e1
  cases r1 with
  | @cons _ u1 _ _ rv r1 =>
  cases r1 with
  | @cons _ u2 _ _ rw' r1 =>
  cases r1
  refine wpAny_newObj_type ?_ (by show 2 ≤ sizeLine; decide)
  have I2 : Inv X pins σ H1 { s1 with heap := s1.heap.push { cls := .type "tuple", data := .seq [u1, u2].toArray } } := I1.kept (t' := s1.toks) fun b o e => Heap.get?_push_of_some _ e
  refine wpAny_bind (wpAny_pure ?_)
  show wpAny (model X.prog X.w) X.A (do PySem.assign (.Tuple [.Name x px, .Name y py] kt pt) X.env (.ref s1.heap.objs.size); pure Flow.next) _ _ _
  refine wpAny_bind (assign_Tuple_tuple (items := #[u1, u2]) (I.ok.hd hc) (IsTup.new s1.heap _) rfl rfl fun h' hx' => ?_)
  have I3 := I2.kept (h' := h') (t' := s1.toks) fun b o e => hx' b o (Nat.ne_of_lt (Heap.lt_size e)) e
  refine assignInOrder_cons (wpAny_assign_Name (store_ok I3 hN hi (.inl hx) rv (fun s2 I4 => ?_) (.inr hx)))
  refine assignInOrder_cons (wpAny_assign_Name (store_ok I4 hN hj (.inl hy) rw' (fun s3 I5 => assignInOrder_nil (wpAny_pure ?_)) (.inr hy)))
  exact ⟨_, H1, I5, q1⟩
theorem g_par {K : PySem.W.Frag} {b : List Addr} {σ : L2.St} {H : Hp} {t : TA} {ts : TS} {D : Ends} {d1 d2 : PyData} {i j : Nat} (h : EA K b t σ H [d1, d2]) (k : ∀ v w H', Ex H H' → Dq K b H' v d1 → Dq K b H' w d2 → ts D ((σ.set i (some v)).set j (some w)) H') : tSeq (tPar i j t) ts D σ H :=
  h H (Ex.refl H) _ fun vs H1 x1 hvs => by
    cases hvs with
    | @cons v _ _ _ hv hvs =>
    cases hvs with
    | @cons w _ _ _ hw hvs =>
    cases hvs
    exact ⟨v, w, rfl, k v w H1 x1 hv hw⟩
section
variable {P : Program} {w : World} {K : PySem.W.Frag} {mg : Str → Option Value} {base : Heap} {f g : Addr} {fd gd : FuncData}
theorem ok_an (D : Def K mg "_law_begun_anew" s_an ["_law_bag_here"] f fd) (Dt : Def K mg "_law_take" s_take ["_law_bag_here", "_law_many"] g gd) (B : Blt mg) : FnOk P w K mg base CX0 2 f fd ["_law_bag_here"] (spG K 0 (· = []) fun _ d => TreL d) := by
  refine D.F.ok sc_an (fun vs H Q E h => spG_len (fun ds e => by rw [e]; rfl) h) (fun cdv A outer s H vs Q E hr h => ?_)
  obtain ⟨b, a, k0, ws, ds, rfl, hab, kn, bg, hd, rfl, q⟩ := h
  cases hd
  have Gt := ok_take (P := P) (w := w) (base := base) Dt
  refine ⟨_, pss_cons (ps_parN (i := 1) (j := 2) rfl sc_an.nd rfl rfl rfl rfl (pa_cons (pe_tupF (pa_cons pe_str (pa_cons pe_str pa_nil))) (pa_cons (pe_tupF (pa_cons pe_str (pa_cons pe_str pa_nil))) pa_nil)) rfl)
    (pss_cons (ps_set (i := 3) sc_an.nd rfl (Or.inl rfl) (pe_tupF (pa_cons pe_str (pa_cons (pv 1) (pa_cons (pe_tupF (pa_cons (pe_tupF (pa_cons pe_str (pa_cons (pe_tupF (pa_cons pe_str (pa_cons pe_str (pa_cons (pe_tupF (pa_cons (pe_tupF (pa_cons pe_str (pa_cons (pv 1) (pa_cons pe_int pa_nil)))) pa_nil)) pa_nil)))) pa_nil))) pa_nil)) (pa_cons (pe_tupF pa_nil) pa_nil))))))
    (pss_cons (ps_set (i := 4) sc_an.nd rfl (Or.inl rfl) (pe_tupF (pa_cons pe_str (pa_cons (pe_tupF (pa_cons (pe_tupF (pa_cons pe_str (pa_cons (pv 2) pa_nil))) pa_nil)) (pa_cons pe_str (pa_cons (pe_tupF (pa_cons (pe_tupF (pa_cons pe_str (pa_cons (pe_tupF (pa_cons pe_str (pa_cons pe_str pa_nil))) pa_nil))) pa_nil)) pa_nil))))))
    (pss_cons (ps_set (i := 5) sc_an.nd rfl (Or.inl rfl) (pe_tupF (pa_cons pe_str (pa_cons (pe_tupF (pa_cons (pe_tupF (pa_cons pe_str (pa_cons pe_str (pa_cons (pe_tupF (pa_cons pe_str (pa_cons pe_str (pa_cons (pe_tupF pa_nil) pa_nil)))) pa_nil)))) pa_nil)) (pa_cons pe_str (pa_cons (pe_tupF (pa_cons (pe_tupF (pa_cons pe_str (pa_cons (pe_tupF (pa_cons pe_str (pa_cons pe_str pa_nil))) pa_nil))) pa_nil)) pa_nil))))))
    (pss_cons (ps_set (i := 6) sc_an.nd rfl (Or.inl rfl) (pe_lst (pa_cons (pe_tupF (pa_cons (pe_tupF (pa_cons pe_str (pa_cons (pe_tupF pa_nil) (pa_cons (pe_tupF (pa_cons (pe_tupF (pa_cons pe_str (pa_cons (pv 2) pa_nil))) (pa_cons (pe_tupF (pa_cons pe_str (pa_cons pe_str (pa_cons pe_int pa_nil)))) pa_nil))) pa_nil)))) (pa_cons (pe_tupF (pa_cons pe_str (pa_cons (pe_tupF (pa_cons pe_str pa_nil)) (pa_cons (pe_tupF (pa_cons (pv 5) (pa_cons (pv 5) (pa_cons (pe_tupF (pa_cons pe_str (pa_cons (pv 1) pa_nil))) pa_nil)))) pa_nil)))) pa_nil))) pa_nil)))
    (pss_cons (ps_expr (pe_bm PySem.F.plainAttrs_list PySem.F.slot_list_append PySem.F.type_list_append mt_append (pv 6) (pa_cons (pe_tupF (pa_cons (pe_tupF (pa_cons pe_str (pa_cons (pe_tupF pa_nil) (pa_cons (pe_tupF (pa_cons (pv 4) (pa_cons (pe_tupF (pa_cons pe_str (pa_cons pe_str (pa_cons pe_int pa_nil)))) (pa_cons (pe_tupF (pa_cons pe_str (pa_cons (pv 2) pa_nil))) pa_nil)))) pa_nil)))) (pa_cons (pe_tupF (pa_cons pe_str (pa_cons (pe_tupF (pa_cons pe_str pa_nil)) (pa_cons (pe_tupF (pa_cons (pv 5) (pa_cons (pv 5) (pa_cons (pv 4) pa_nil)))) pa_nil)))) pa_nil))) pa_nil)))
    (pss_cons (ps_expr (pe_bm PySem.F.plainAttrs_list PySem.F.slot_list_append PySem.F.type_list_append mt_append (pv 6) (pa_cons (pe_tupF (pa_cons (pe_tupF (pa_cons pe_str (pa_cons (pe_tupF (pa_cons pe_str pa_nil)) (pa_cons (pe_tupF (pa_cons (pv 4) (pa_cons (pe_tupF (pa_cons pe_str (pa_cons pe_str (pa_cons (pv 1) pa_nil)))) (pa_cons (pv 3) (pa_cons (pe_tupF (pa_cons pe_str (pa_cons (pv 2) pa_nil))) pa_nil))))) pa_nil)))) pa_nil)) pa_nil)))
    (pss_cons (ps_set (i := 7) sc_an.nd rfl (Or.inr rfl) (pe_lst (pa_cons (pe_tupF (pa_cons pe_str (pa_cons pe_str (pa_cons (pe_tupF (pa_cons (pv 1) pa_nil)) pa_nil)))) (pa_cons (pe_tupF (pa_cons pe_str (pa_cons pe_str (pa_cons (pe_tupF (pa_cons pe_int pa_nil)) pa_nil)))) (pa_cons (pe_tupF (pa_cons pe_str (pa_cons pe_int (pa_cons (pe_tupF (pa_cons pe_str (pa_cons (pv 1) (pa_cons (pv 1) pa_nil)))) pa_nil)))) (pa_cons (pe_tupF (pa_cons pe_str (pa_cons pe_str pa_nil))) pa_nil))))))
    (pss_cons (ps_expr (pe_bm PySem.F.plainAttrs_list PySem.F.slot_list_append PySem.F.type_list_append mt_append (pv 7) (pa_cons (pe_tupF (pa_cons pe_str (pa_cons (pe_op op_pow pe_int pe_int) (pa_cons (pe_tupF (pa_cons pe_str (pa_cons pe_str (pa_cons (pe_tupF (pa_cons pe_int pa_nil)) pa_nil)))) pa_nil)))) pa_nil)))
    (pss_cons (ps_set (i := 8) sc_an.nd rfl (Or.inl rfl) (pe_callTy call_tupF rfl B.tuple bt_tuple (pa_cons (pe_lc (own := [("_law_k", 11)]) (g := gName 11) (tt := tYes) (te := (tOp (rIxL K) (tVar 7) (tCall (spTake K) [] E0 (tCons (tVar 0) (tCons (tC (.int 5)) tNil))))) rfl sc_an.nd (pi_range1 rfl B.range (pa_cons pe_int pa_nil)) (blkOk_by (N := NAn) (sc := defScope s_an) (by decide +kernel)) (fun _ _ _ _ _ => (pg_name (i := 11) sc_an.nd rfl (Or.inl rfl))) (fun _ _ _ _ _ => pts_nil) (fun _ _ _ _ _ => (pe_ix (r := rIxL K) ix_list (pv 7) (pe_cd Dt Gt (hr.mono (by decide)) (pa_cons (pv 0) (pa_cons pe_int pa_nil))) (fun _ _ => rfl)))) pa_nil)))
    (pss_cons (ps_set (i := 9) sc_an.nd rfl (Or.inl rfl) (pe_tupF (pa_cons pe_str (pa_cons (pe_tupF (pa_cons pe_str (pa_cons pe_str (pa_cons pe_str pa_nil)))) (pa_cons (pe_tupF (pa_cons (pe_tupF (pa_cons pe_str (pa_cons (pe_tupF (pa_cons pe_str (pa_cons (pe_tupF (pa_cons pe_str (pa_cons pe_str pa_nil))) (pa_cons (pe_tupF (pa_cons pe_str (pa_cons (pv 2) (pa_cons (pe_tupF (pa_cons pe_str (pa_cons pe_str pa_nil))) pa_nil)))) pa_nil)))) pa_nil))) pa_nil)) pa_nil)))))
    (pss_cons (ps_set (i := 10) sc_an.nd rfl (Or.inl rfl) (pe_tupF (pa_cons pe_str (pa_cons (pe_tupF (pa_cons pe_str pa_nil)) (pa_cons (pe_tupF (pa_cons (pe_tupF (pa_cons pe_str (pa_cons (pv 1) pa_nil))) (pa_cons (pe_tupF (pa_cons pe_str (pa_cons (pv 1) pa_nil))) pa_nil))) pa_nil)))))
    (pss_cons (ps_expr (pe_bm PySem.F.plainAttrs_list PySem.F.slot_list_append PySem.F.type_list_append mt_append (pv 6) (pa_cons (pe_tupF (pa_cons (pv 9) (pa_cons (pv 10) (pa_cons (pe_tupF (pa_cons pe_str (pa_cons (pe_tupF (pa_cons pe_str pa_nil)) (pa_cons (pe_tupF (pa_cons (pe_tupF (pa_cons pe_str (pa_cons (pe_tupF (pa_cons pe_str (pa_cons pe_str (pa_cons (pv 8) pa_nil)))) pa_nil))) pa_nil)) pa_nil)))) pa_nil)))) pa_nil)))
    (pss_one (ps_ret (pv 6))))))))))))))), ?_⟩
  have hsl : sizeLine = 16777216 := sizeLine_eq
  have bg0 : Bag a 0 H := bg
  refine g_par (K := K) (b := b) (d1 := nD) (d2 := yD) (ea_cons (ed_tupS kn (ea_cons (ed_str (x := "name")) (ea_cons (ed_str (x := "n")) ea_nil)) (Nat.le_of_ble_eq_true rfl)) (ea_cons (ed_tupS kn (ea_cons (ed_str (x := "name")) (ea_cons (ed_str (x := "y")) ea_nil)) (Nat.le_of_ble_eq_true rfl)) ea_nil)) fun v1 v2 H1 x1 h1 h2 => ?_
  show tSeq _ _ _ [some (.ref a), some v1, some v2, none, none, none, none, none, none, none, none, none] H1
  have kn1 := kn.up x1
  refine g_set (K := K) (b := b) (d := downD) (ed_tupS kn1 (ea_cons (ed_str (x := "if")) (ea_cons (ed_var (i := 1) rfl h1) (ea_cons (ed_tupS kn1 (ea_cons (ed_tupS kn1 (ea_cons (ed_str (x := "say")) (ea_cons (ed_tupS kn1 (ea_cons (ed_str (x := "call")) (ea_cons (ed_str (x := "a")) (ea_cons (ed_tupS kn1 (ea_cons (ed_tupS kn1 (ea_cons (ed_str (x := "less")) (ea_cons (ed_var (i := 1) rfl h1) (ea_cons (ed_int (i := 1)) ea_nil))) (Nat.le_of_ble_eq_true rfl)) ea_nil) (Nat.le_of_ble_eq_true rfl)) ea_nil))) (Nat.le_of_ble_eq_true rfl)) ea_nil)) (Nat.le_of_ble_eq_true rfl)) ea_nil) (Nat.le_of_ble_eq_true rfl)) (ea_cons (ed_tupS kn1 ea_nil (Nat.le_of_ble_eq_true rfl)) ea_nil)))) (Nat.le_of_ble_eq_true rfl)) fun v3 H2 x2 h3 => ?_
  show tSeq _ _ _ [some (.ref a), some v1, some v2, some v3, none, none, none, none, none, none, none, none] H2
  have kn2 := kn1.up x2
  have h1 := Dq.up h1 x2
  have h2 := Dq.up h2 x2
  refine g_set (K := K) (b := b) (d := asksD) (ed_tupS kn2 (ea_cons (ed_str (x := "try")) (ea_cons (ed_tupS kn2 (ea_cons (ed_tupS kn2 (ea_cons (ed_str (x := "say")) (ea_cons (ed_var (i := 2) rfl h2) ea_nil)) (Nat.le_of_ble_eq_true rfl)) ea_nil) (Nat.le_of_ble_eq_true rfl)) (ea_cons (ed_str (x := "f")) (ea_cons (ed_tupS kn2 (ea_cons (ed_tupS kn2 (ea_cons (ed_str (x := "say")) (ea_cons (ed_tupS kn2 (ea_cons (ed_str (x := "name")) (ea_cons (ed_str (x := "f")) ea_nil)) (Nat.le_of_ble_eq_true rfl)) ea_nil)) (Nat.le_of_ble_eq_true rfl)) ea_nil) (Nat.le_of_ble_eq_true rfl)) ea_nil)))) (Nat.le_of_ble_eq_true rfl)) fun v4 H3 x3 h4 => ?_
  show tSeq _ _ _ [some (.ref a), some v1, some v2, some v3, some v4, none, none, none, none, none, none, none] H3
  have kn3 := kn2.up x3
  have h1 := Dq.up h1 x3
  have h2 := Dq.up h2 x3
  have h3 := Dq.up h3 x3
  refine g_set (K := K) (b := b) (d := callsD) (ed_tupS kn3 (ea_cons (ed_str (x := "try")) (ea_cons (ed_tupS kn3 (ea_cons (ed_tupS kn3 (ea_cons (ed_str (x := "set")) (ea_cons (ed_str (x := "x")) (ea_cons (ed_tupS kn3 (ea_cons (ed_str (x := "call")) (ea_cons (ed_str (x := "b")) (ea_cons (ed_tupS kn3 ea_nil (Nat.le_of_ble_eq_true rfl)) ea_nil))) (Nat.le_of_ble_eq_true rfl)) ea_nil))) (Nat.le_of_ble_eq_true rfl)) ea_nil) (Nat.le_of_ble_eq_true rfl)) (ea_cons (ed_str (x := "f")) (ea_cons (ed_tupS kn3 (ea_cons (ed_tupS kn3 (ea_cons (ed_str (x := "say")) (ea_cons (ed_tupS kn3 (ea_cons (ed_str (x := "name")) (ea_cons (ed_str (x := "f")) ea_nil)) (Nat.le_of_ble_eq_true rfl)) ea_nil)) (Nat.le_of_ble_eq_true rfl)) ea_nil) (Nat.le_of_ble_eq_true rfl)) ea_nil)))) (Nat.le_of_ble_eq_true rfl)) fun v5 H4 x4 h5 => ?_
  show tSeq _ _ _ [some (.ref a), some v1, some v2, some v3, some v4, some v5, none, none, none, none, none, none] H4
  have kn4 := kn3.up x4
  have h1 := Dq.up h1 x4
  have h2 := Dq.up h2 x4
  have h3 := Dq.up h3 x4
  have h4 := Dq.up h4 x4
  refine g_lstF (K := K) (b := b) (i := 6) (ds := [treeT T1L]) kn4 (ea_cons (ed_tupS kn4 (ea_cons (ed_tupS kn4 (ea_cons (ed_str (x := "b")) (ea_cons (ed_tupS kn4 ea_nil (Nat.le_of_ble_eq_true rfl)) (ea_cons (ed_tupS kn4 (ea_cons (ed_tupS kn4 (ea_cons (ed_str (x := "say")) (ea_cons (ed_var (i := 2) rfl h2) ea_nil)) (Nat.le_of_ble_eq_true rfl)) (ea_cons (ed_tupS kn4 (ea_cons (ed_str (x := "set")) (ea_cons (ed_str (x := "y")) (ea_cons (ed_int (i := 4)) ea_nil))) (Nat.le_of_ble_eq_true rfl)) ea_nil)) (Nat.le_of_ble_eq_true rfl)) ea_nil))) (Nat.le_of_ble_eq_true rfl)) (ea_cons (ed_tupS kn4 (ea_cons (ed_str (x := "a")) (ea_cons (ed_tupS kn4 (ea_cons (ed_str (x := "n")) ea_nil) (Nat.le_of_ble_eq_true rfl)) (ea_cons (ed_tupS kn4 (ea_cons (ed_var (i := 5) rfl h5) (ea_cons (ed_var (i := 5) rfl h5) (ea_cons (ed_tupS kn4 (ea_cons (ed_str (x := "say")) (ea_cons (ed_var (i := 1) rfl h1) ea_nil)) (Nat.le_of_ble_eq_true rfl)) ea_nil))) (Nat.le_of_ble_eq_true rfl)) ea_nil))) (Nat.le_of_ble_eq_true rfl)) ea_nil)) (Nat.le_of_ble_eq_true rfl)) ea_nil) (Nat.le_of_ble_eq_true rfl) fun F vs H5 hF x5 hF5 dF => ?_
  show tSeq _ _ _ [some (.ref a), some v1, some v2, some v3, some v4, some v5, some (.ref F), none, none, none, none, none] H5
  have Fb : F ∉ b := kn4.new hF
  have x05 : Ex H H5 := ((((x1.trans x2).trans x3).trans x4).trans x5)
  have bg5 := bg0.ex x05
  have Fa : F ≠ a := fun e => (bg0.ex (((x1.trans x2).trans x3).trans x4)).there (e ▸ hF)
  have hab2 : a ∈ F :: b := List.mem_cons_of_mem _ hab
  have kn5 : Kn (F :: b) H5 := fun c hc => by
    rcases List.mem_cons.mp hc with rfl | hc
    · rw [hF5]; intro z; cases z
    · exact (kn4.up x5) c hc
  have h1 : Dq K (F :: b) H5 v1 _ := dp_ex (hid_ex x5) _ _ (Dq.hide h1 hF)
  have h2 : Dq K (F :: b) H5 v2 _ := dp_ex (hid_ex x5) _ _ (Dq.hide h2 hF)
  have h3 : Dq K (F :: b) H5 v3 _ := dp_ex (hid_ex x5) _ _ (Dq.hide h3 hF)
  have h4 : Dq K (F :: b) H5 v4 _ := dp_ex (hid_ex x5) _ _ (Dq.hide h4 hF)
  have h5 : Dq K (F :: b) H5 v5 _ := dp_ex (hid_ex x5) _ _ (Dq.hide h5 hF)
  refine g_app (K := K) (b := F :: b) (j := 6) rfl hF5 (by rw [dps_len dF]; show 1 < 10000000; decide) (d := treeT T2L) (ed_tupS kn5 (ea_cons (ed_tupS kn5 (ea_cons (ed_str (x := "b")) (ea_cons (ed_tupS kn5 ea_nil (Nat.le_of_ble_eq_true rfl)) (ea_cons (ed_tupS kn5 (ea_cons (ed_var (i := 4) rfl h4) (ea_cons (ed_tupS kn5 (ea_cons (ed_str (x := "set")) (ea_cons (ed_str (x := "y")) (ea_cons (ed_int (i := 4)) ea_nil))) (Nat.le_of_ble_eq_true rfl)) (ea_cons (ed_tupS kn5 (ea_cons (ed_str (x := "say")) (ea_cons (ed_var (i := 2) rfl h2) ea_nil)) (Nat.le_of_ble_eq_true rfl)) ea_nil))) (Nat.le_of_ble_eq_true rfl)) ea_nil))) (Nat.le_of_ble_eq_true rfl)) (ea_cons (ed_tupS kn5 (ea_cons (ed_str (x := "a")) (ea_cons (ed_tupS kn5 (ea_cons (ed_str (x := "n")) ea_nil) (Nat.le_of_ble_eq_true rfl)) (ea_cons (ed_tupS kn5 (ea_cons (ed_var (i := 5) rfl h5) (ea_cons (ed_var (i := 5) rfl h5) (ea_cons (ed_var (i := 4) rfl h4) ea_nil))) (Nat.le_of_ble_eq_true rfl)) ea_nil))) (Nat.le_of_ble_eq_true rfl)) ea_nil)) (Nat.le_of_ble_eq_true rfl)) fun y6 H6 x6 hy6 => ?_
  have hF6' : (upd H6 F (.lst (vs ++ [y6]))) F = some (.lst (vs ++ [y6])) := upd_same
  have dF : DqAll K (F :: b) (upd H6 F (.lst (vs ++ [y6]))) (vs ++ [y6]) ([treeT T1L] ++ [treeT T2L]) := dps_ex put_ex _ _ (dps_app (DqAll.up dF x6) (.cons hy6 .nil))
  have h1 : Dq K (F :: b) (upd H6 F (.lst (vs ++ [y6]))) v1 _ := dp_ex put_ex _ _ (Dq.up h1 x6)
  have h2 : Dq K (F :: b) (upd H6 F (.lst (vs ++ [y6]))) v2 _ := dp_ex put_ex _ _ (Dq.up h2 x6)
  have h3 : Dq K (F :: b) (upd H6 F (.lst (vs ++ [y6]))) v3 _ := dp_ex put_ex _ _ (Dq.up h3 x6)
  have h4 : Dq K (F :: b) (upd H6 F (.lst (vs ++ [y6]))) v4 _ := dp_ex put_ex _ _ (Dq.up h4 x6)
  have h5 : Dq K (F :: b) (upd H6 F (.lst (vs ++ [y6]))) v5 _ := dp_ex put_ex _ _ (Dq.up h5 x6)
  have kn6' : Kn (F :: b) (upd H6 F (.lst (vs ++ [y6]))) := fun c hc => by
    by_cases e : c = F
    · rw [e, upd_same]; intro z; cases z
    · rw [upd_ne e]; exact (kn5.up x6) c hc
  have xF6 : ∀ c o, c ≠ F → H5 c = some o → (upd H6 F (.lst (vs ++ [y6]))) c = some o := fun c o e z => by rw [upd_ne e]; exact x6 _ _ z
  generalize hE6 : upd H6 F (.lst (vs ++ [y6])) = G6 at hF6' dF h1 h2 h3 h4 h5 kn6' xF6
  show tSeq _ _ _ [some (.ref a), some v1, some v2, some v3, some v4, some v5, some (.ref F), none, none, none, none, none] G6
  refine g_app (K := K) (b := F :: b) (j := 6) rfl hF6' (by rw [dps_len dF]; show 2 < 10000000; decide) (d := treeT T3L) (ed_tupS kn6' (ea_cons (ed_tupS kn6' (ea_cons (ed_str (x := "a")) (ea_cons (ed_tupS kn6' (ea_cons (ed_str (x := "n")) ea_nil) (Nat.le_of_ble_eq_true rfl)) (ea_cons (ed_tupS kn6' (ea_cons (ed_var (i := 4) rfl h4) (ea_cons (ed_tupS kn6' (ea_cons (ed_str (x := "set")) (ea_cons (ed_str (x := "y")) (ea_cons (ed_var (i := 1) rfl h1) ea_nil))) (Nat.le_of_ble_eq_true rfl)) (ea_cons (ed_var (i := 3) rfl h3) (ea_cons (ed_tupS kn6' (ea_cons (ed_str (x := "say")) (ea_cons (ed_var (i := 2) rfl h2) ea_nil)) (Nat.le_of_ble_eq_true rfl)) ea_nil)))) (Nat.le_of_ble_eq_true rfl)) ea_nil))) (Nat.le_of_ble_eq_true rfl)) ea_nil) (Nat.le_of_ble_eq_true rfl)) fun y7 H7 x7 hy7 => ?_
  have hF7' : (upd H7 F (.lst ((vs ++ [y6]) ++ [y7]))) F = some (.lst ((vs ++ [y6]) ++ [y7])) := upd_same
  have dF : DqAll K (F :: b) (upd H7 F (.lst ((vs ++ [y6]) ++ [y7]))) ((vs ++ [y6]) ++ [y7]) (([treeT T1L] ++ [treeT T2L]) ++ [treeT T3L]) := dps_ex put_ex _ _ (dps_app (DqAll.up dF x7) (.cons hy7 .nil))
  have h1 : Dq K (F :: b) (upd H7 F (.lst ((vs ++ [y6]) ++ [y7]))) v1 _ := dp_ex put_ex _ _ (Dq.up h1 x7)
  have h2 : Dq K (F :: b) (upd H7 F (.lst ((vs ++ [y6]) ++ [y7]))) v2 _ := dp_ex put_ex _ _ (Dq.up h2 x7)
  have h3 : Dq K (F :: b) (upd H7 F (.lst ((vs ++ [y6]) ++ [y7]))) v3 _ := dp_ex put_ex _ _ (Dq.up h3 x7)
  have h4 : Dq K (F :: b) (upd H7 F (.lst ((vs ++ [y6]) ++ [y7]))) v4 _ := dp_ex put_ex _ _ (Dq.up h4 x7)
  have h5 : Dq K (F :: b) (upd H7 F (.lst ((vs ++ [y6]) ++ [y7]))) v5 _ := dp_ex put_ex _ _ (Dq.up h5 x7)
  have kn7' : Kn (F :: b) (upd H7 F (.lst ((vs ++ [y6]) ++ [y7]))) := fun c hc => by
    by_cases e : c = F
    · rw [e, upd_same]; intro z; cases z
    · rw [upd_ne e]; exact (kn6'.up x7) c hc
  have xF7 : ∀ c o, c ≠ F → G6 c = some o → (upd H7 F (.lst ((vs ++ [y6]) ++ [y7]))) c = some o := fun c o e z => by rw [upd_ne e]; exact x7 _ _ z
  generalize hE7 : upd H7 F (.lst ((vs ++ [y6]) ++ [y7])) = G7 at hF7' dF h1 h2 h3 h4 h5 kn7' xF7
  show tSeq _ _ _ [some (.ref a), some v1, some v2, some v3, some v4, some v5, some (.ref F), none, none, none, none, none] G7
  refine g_lstF (K := K) (b := F :: b) (i := 7) (ds := someL) kn7' (ea_cons (ed_tupS kn7' (ea_cons (ed_str (x := "call")) (ea_cons (ed_str (x := "b")) (ea_cons (ed_tupS kn7' (ea_cons (ed_var (i := 1) rfl h1) ea_nil) (Nat.le_of_ble_eq_true rfl)) ea_nil))) (Nat.le_of_ble_eq_true rfl)) (ea_cons (ed_tupS kn7' (ea_cons (ed_str (x := "call")) (ea_cons (ed_str (x := "b")) (ea_cons (ed_tupS kn7' (ea_cons (ed_int (i := 2)) ea_nil) (Nat.le_of_ble_eq_true rfl)) ea_nil))) (Nat.le_of_ble_eq_true rfl)) (ea_cons (ed_tupS kn7' (ea_cons (ed_str (x := "over")) (ea_cons (ed_int (i := 1)) (ea_cons (ed_tupS kn7' (ea_cons (ed_str (x := "less")) (ea_cons (ed_var (i := 1) rfl h1) (ea_cons (ed_var (i := 1) rfl h1) ea_nil))) (Nat.le_of_ble_eq_true rfl)) ea_nil))) (Nat.le_of_ble_eq_true rfl)) (ea_cons (ed_tupS kn7' (ea_cons (ed_str (x := "name")) (ea_cons (ed_str (x := "q")) ea_nil)) (Nat.le_of_ble_eq_true rfl)) ea_nil)))) (Nat.le_of_ble_eq_true rfl) fun S ws H8 hS x8 hS8 dS => ?_
  show tSeq _ _ _ [some (.ref a), some v1, some v2, some v3, some v4, some v5, some (.ref F), some (.ref S), none, none, none, none] H8
  have Sb : S ∉ F :: b := kn7'.new hS
  have kn8 : Kn (S :: F :: b) H8 := fun c hc => by
    rcases List.mem_cons.mp hc with rfl | hc
    · rw [hS8]; intro z; cases z
    · exact (kn7'.up x8) c hc
  have dF : DqAll K (S :: F :: b) H8 _ _ := dps_ex (hid_ex x8) _ _ (dps_ex (hide_ex hS) _ _ dF)
  have h1 : Dq K (S :: F :: b) H8 v1 _ := dp_ex (hid_ex x8) _ _ (Dq.hide h1 hS)
  have h2 : Dq K (S :: F :: b) H8 v2 _ := dp_ex (hid_ex x8) _ _ (Dq.hide h2 hS)
  have hF8 := x8 _ _ hF7'
  have SF : S ≠ F := fun e => Sb (by rw [e]; exact List.mem_cons_self)
  refine g_app (K := K) (b := S :: F :: b) (j := 7) rfl hS8 (by rw [dps_len dS]; show 4 < 10000000; decide) (d := someX) (ed_tupS kn8 (ea_cons (ed_str (x := "times")) (ea_cons (ed_I (z := .int 1000000000000) (ed_int (i := 10)) (ed_int (i := 12)) ⟨by decide, by decide, by decide⟩ fun _ => .int _) (ea_cons (ed_tupS kn8 (ea_cons (ed_str (x := "call")) (ea_cons (ed_str (x := "b")) (ea_cons (ed_tupS kn8 (ea_cons (ed_int (i := 7)) ea_nil) (Nat.le_of_ble_eq_true rfl)) ea_nil))) (Nat.le_of_ble_eq_true rfl)) ea_nil))) (Nat.le_of_ble_eq_true rfl)) fun y9 H9 x9 hy9 => ?_
  have hS9 : (upd H9 S (.lst (ws ++ [y9]))) S = some (.lst (ws ++ [y9])) := upd_same
  have dS : DqAll K (S :: F :: b) (upd H9 S (.lst (ws ++ [y9]))) (ws ++ [y9]) (someL ++ [someX]) := dps_ex put_ex _ _ (dps_app (DqAll.up dS x9) (.cons hy9 .nil))
  have dF : DqAll K (F :: b) (upd H9 S (.lst (ws ++ [y9]))) _ _ := dps_ex show_ex _ _ (dps_ex put_ex _ _ (DqAll.up dF x9))
  have h1 : Dq K (F :: b) (upd H9 S (.lst (ws ++ [y9]))) v1 _ := dp_ex show_ex _ _ (dp_ex put_ex _ _ (Dq.up h1 x9))
  have h2 : Dq K (F :: b) (upd H9 S (.lst (ws ++ [y9]))) v2 _ := dp_ex show_ex _ _ (dp_ex put_ex _ _ (Dq.up h2 x9))
  have kn9 : Kn (F :: b) (upd H9 S (.lst (ws ++ [y9]))) := fun c hc => by
    rw [upd_ne (fun e => Sb (by rw [← e]; exact hc))]
    exact (kn8.up x9) c (List.mem_cons_of_mem _ hc)
  have hF9 : (upd H9 S (.lst (ws ++ [y9]))) F = some (.lst ((vs ++ [y6]) ++ [y7])) := by
    rw [upd_ne (Ne.symm SF)]
    exact x9 _ _ hF8
  have hSd := dq_lstF Sb hS9 dS
  have x09 : ∀ c o, c ≠ F → H5 c = some o → (upd H9 S (.lst (ws ++ [y9]))) c = some o := fun c o cF z => by
    have z7 := xF7 c o cF (xF6 c o cF z)
    rw [upd_ne (fun e => by rw [e, hS] at z7; cases z7)]
    exact x9 _ _ (x8 _ _ z7)
  generalize upd H9 S (.lst (ws ++ [y9])) = G9 at hS9 dS dF h1 h2 kn9 hF9 hSd x09
  show tSeq _ _ _ [some (.ref a), some v1, some v2, some v3, some v4, some v5, some (.ref F), some (.ref S), none, none, none, none] G9
  have bg9 : Bag a 0 G9 := by
    obtain ⟨g', y, e1, e2⟩ := bg5
    exact ⟨g', y, x09 _ _ (Ne.symm Fa) e1, e2⟩
  have lc := eg_lcR (K := K) (b := F :: b) (a := a) (m := 0) (i0 := 11) (c := 0) (N := 3) (R := fun _ d => VaP hs4 3 d) (ta := tC (.int 3)) (te := tOp (rIxL K) (tVar 7) (tCall (spTake K) [] E0 (tCons (tVar 0) (tCons (tC (.int 5)) tNil)))) (σ := [some (.ref a), some v1, some v2, some v3, some v4, some v5, some (.ref F), some (.ref S), none, none, none, none]) (H := G9) hab2 (fun _ _ _ => ed_int) (by decide)
    (fun Dl i f2 H0 H1 hi z0 hD z1 => eg_ixL (k := f2) (P1 := (· = .list (someL ++ [someX]))) (P2 := IntB 5) (List.mem_cons_of_mem _ hab2) (eg_var (i := 7) rfl (List.mem_cons_of_mem _ hab2) (dp_ex (hid_exB (List.mem_cons_of_mem _ hab2) z1) _ _ (Dq.hide (hSd.upB hab2 z0) hD)) rfl) (eg_take (List.mem_cons_of_mem _ hab2) rfl (by decide) (by decide)) fun d e p1 p2 => by
      subst p1
      obtain ⟨i, z, rfl, hz, hm⟩ := intB_at (ds := someL ++ [someX]) p2 (by show (5 : Int) ≤ ((5 : Nat) : Int); decide)
      exact ⟨_, i, z, rfl, rfl, hz, some_p z hm⟩)
  refine g_setG (K := K) (b := F :: b) (a := a) (n := 0) (k := 0) (P1 := fun d => ∃ ts3, d = .tuple ts3 ∧ ts3.length = 3 ∧ ∀ e ∈ ts3, VaP hs4 3 e) (eg_tupOf (EG.any lc) ?_) kn9 bg9 fun v8 d8 Ha xa bga kna hv8 ⟨ts3, e8, l3, p3⟩ => ?_
  · rintro d ⟨ds, rfl, hl, hR⟩
    refine ⟨ds, rfl, ds, rfl, hl, fun e he => ?_⟩
    obtain ⟨i, hi, ei⟩ := List.mem_iff_getElem.mp he
    exact hR i e (by rw [List.getElem?_eq_getElem hi, ei])
  subst e8
  show tSeq _ _ _ [some (.ref a), some v1, some v2, some v3, some v4, some v5, some (.ref F), some (.ref S), some v8, none, none, none] Ha
  have h1 := h1.upB hab2 xa
  have h2 := h2.upB hab2 xa
  have hFa := xa _ _ Fa hF9
  have dF := DqAll.upB hab2 dF xa
  refine g_set (K := K) (b := F :: b) (d := tellsT) (ed_tupS kna (ea_cons (ed_str (x := "c")) (ea_cons (ed_tupS kna (ea_cons (ed_str (x := "x")) (ea_cons (ed_str (x := "y")) (ea_cons (ed_str (x := "z")) ea_nil))) (Nat.le_of_ble_eq_true rfl)) (ea_cons (ed_tupS kna (ea_cons (ed_tupS kna (ea_cons (ed_str (x := "say")) (ea_cons (ed_tupS kna (ea_cons (ed_str (x := "add")) (ea_cons (ed_tupS kna (ea_cons (ed_str (x := "name")) (ea_cons (ed_str (x := "x")) ea_nil)) (Nat.le_of_ble_eq_true rfl)) (ea_cons (ed_tupS kna (ea_cons (ed_str (x := "times")) (ea_cons (ed_var (i := 2) rfl h2) (ea_cons (ed_tupS kna (ea_cons (ed_str (x := "name")) (ea_cons (ed_str (x := "z")) ea_nil)) (Nat.le_of_ble_eq_true rfl)) ea_nil))) (Nat.le_of_ble_eq_true rfl)) ea_nil))) (Nat.le_of_ble_eq_true rfl)) ea_nil)) (Nat.le_of_ble_eq_true rfl)) ea_nil) (Nat.le_of_ble_eq_true rfl)) ea_nil))) (Nat.le_of_ble_eq_true rfl)) fun v9 Hb xb hv9 => ?_
  show tSeq _ _ _ [some (.ref a), some v1, some v2, some v3, some v4, some v5, some (.ref F), some (.ref S), some v8, some v9, none, none] Hb
  have h1 := Dq.up h1 xb
  have knb := kna.up xb
  refine g_set (K := K) (b := F :: b) (d := saysT) (ed_tupS knb (ea_cons (ed_str (x := "b")) (ea_cons (ed_tupS knb (ea_cons (ed_str (x := "n")) ea_nil) (Nat.le_of_ble_eq_true rfl)) (ea_cons (ed_tupS knb (ea_cons (ed_tupS knb (ea_cons (ed_str (x := "say")) (ea_cons (ed_var (i := 1) rfl h1) ea_nil)) (Nat.le_of_ble_eq_true rfl)) (ea_cons (ed_tupS knb (ea_cons (ed_str (x := "back")) (ea_cons (ed_var (i := 1) rfl h1) ea_nil)) (Nat.le_of_ble_eq_true rfl)) ea_nil)) (Nat.le_of_ble_eq_true rfl)) ea_nil))) (Nat.le_of_ble_eq_true rfl)) fun v10 Hc xc hv10 => ?_
  show tSeq _ _ _ [some (.ref a), some v1, some v2, some v3, some v4, some v5, some (.ref F), some (.ref S), some v8, some v9, some v10, none] Hc
  have knc := knb.up xc
  have hv9 := Dq.up hv9 xc
  have hv8 := Dq.up (Dq.up hv8 xb) xc
  have hFc := xc _ _ (xb _ _ hFa)
  have dF := DqAll.up (DqAll.up dF xb) xc
  refine g_app (K := K) (b := F :: b) (j := 6) rfl hFc (by rw [dps_len dF]; show 3 < 10000000; decide) (d := treeT (T4L ts3)) (ed_tupS knc (ea_cons (ed_var (i := 9) rfl hv9) (ea_cons (ed_var (i := 10) rfl hv10) (ea_cons (ed_tupS knc (ea_cons (ed_str (x := "a")) (ea_cons (ed_tupS knc (ea_cons (ed_str (x := "n")) ea_nil) (Nat.le_of_ble_eq_true rfl)) (ea_cons (ed_tupS knc (ea_cons (ed_tupS knc (ea_cons (ed_str (x := "say")) (ea_cons (ed_tupS knc (ea_cons (ed_str (x := "call")) (ea_cons (ed_str (x := "c")) (ea_cons (ed_var (i := 8) rfl hv8) ea_nil))) (Nat.le_of_ble_eq_true rfl)) ea_nil)) (Nat.le_of_ble_eq_true rfl)) ea_nil) (Nat.le_of_ble_eq_true rfl)) ea_nil))) (Nat.le_of_ble_eq_true rfl)) ea_nil))) (Nat.le_of_ble_eq_true rfl)) fun yd Hd xd hyd => ?_
  have hFd : (upd Hd F (.lst (((vs ++ [y6]) ++ [y7]) ++ [yd]))) F = some (.lst (((vs ++ [y6]) ++ [y7]) ++ [yd])) := upd_same
  have dF : DqAll K (F :: b) (upd Hd F (.lst (((vs ++ [y6]) ++ [y7]) ++ [yd]))) (((vs ++ [y6]) ++ [y7]) ++ [yd]) ((([treeT T1L] ++ [treeT T2L]) ++ [treeT T3L]) ++ [treeT (T4L ts3)]) := dps_ex put_ex _ _ (dps_app (DqAll.up dF xd) (.cons hyd .nil))
  refine ⟨.ref F, rfl, ?_⟩
  refine q _ (.list ((([treeT T1L] ++ [treeT T2L]) ++ [treeT T3L]) ++ [treeT (T4L ts3)])) _ (fun c o ca z => ?_) (bag_upd ((((bga.ex xb).ex xc).ex xd)) Fa).any (dq_lstF Fb hFd dF) ⟨_, rfl, by show 4 ≤ 10; decide, all_cons T1_t (all_cons T2_t (all_cons T3_t (all_cons (T4_t l3 p3) all_nil)))⟩
  have z4 := (((x1.trans x2).trans x3).trans x4) _ _ z
  have cF : c ≠ F := fun e => by rw [e, hF] at z4; cases z4
  rw [upd_ne cF]
  exact xd _ _ (xc _ _ (xb _ _ (xa _ _ ca (x09 c o cF (x5 _ _ z4)))))
end
end Wr

set_option Elab.async false
set_option linter.all false
set_option maxRecDepth 100000
set_option maxHeartbeats 4000000
namespace Wr
open PySem PySem.Spec PyProof.Rows L2 Evl
abbrev s_ri : Stmt := topS 33
abbrev PRi : List Str := ["_law_tree", "_law_part", "_law_numbers"]
abbrev NRi : List Str := ["_law_tree", "_law_part", "_law_numbers", "_law_said", "_law_end", "_law_count", "_law_turn"]
theorem sc_ri : FnScope NRi PRi (defScope s_ri) := ⟨rfl, rfl, rfl, by decide +kernel, rfl, by decide +kernel, by decide +kernel⟩
section
variable {K : PySem.W.Frag} {b : List Addr} {σ : L2.St} {H : Hp} {ta tb te : TE} {t : TA} {ts : TS} {D : Ends} {d : PyData} {ds : List PyData}
theorem lc_data {J : It} {n : Nat} {G : Hp → Prop} {xs : List V} {H2 : Hp} {k : Nat} {g : Nat → PyData} (W : Walk J n G (YAt xs)) (hn : n = xs.length) (hl : n < sizeLine) (kn : Kn b H2) (hG : ∀ H3, Ex H2 H3 → G H3)
    (he : ∀ (D : Addr) (i : Nat) (x : V) (H3 : Hp), xs[i]? = some x → H2 D = none → Ex H2 H3 → Kn (D :: b) H3 → ED K (D :: b) te ((wipe σ [k]).set k (some x)) H3 (g i))
    {Q : VK} (q : ∀ v H3, Ex H2 H3 → Dq K b H3 v (.list ((List.range n).map g)) → Q v H3) (D : Addr) (hD : H2 D = none) :
    ∃ W : Nat → Nat → Hp → Prop, (∃ m, W 0 m (upd H2 D (.lst []))) ∧ ∀ i m H, W i m H →
      (J.stop i H ∧ Q (.ref D) H) ∨ (J.go i H ∧ ∃ Nx : Hp → Prop, (∀ H', Nx H' → ∃ m', m' < m ∧ W (i + 1) m' H') ∧ ∀ x H', J.yld i H x H' → gName k x (wipe σ [k]) H' fun σ2 H2 => wipe σ2 [k] = wipe σ [k] ∧ tYes σ2 H2 fun b H3 =>
        if b = true then te σ2 H3 fun y H4 => ∃ acc, H4 D = some (.lst acc) ∧ acc.length < sizeLine ∧ Nx (upd H4 D (.lst (acc ++ [y]))) else Nx H3) := by
  refine lc_it W (fun i H3 => Ex H2 H3 ∧ Kn (D :: b) H3 ∧ ∃ us, H3 D = some (.lst us) ∧ DqAll K (D :: b) H3 us ((List.range i).map g)) ⟨Ex.new hD, fun z hz => ?_, [], upd_same, .nil⟩ (fun i H3 _ h => hG H3 h.1) ?_ ?_
  · rcases List.mem_cons.mp hz with rfl | hz
    · rw [upd_same]; intro q; cases q
    · exact kn.up (Ex.new hD) z hz
  · intro i x H3 H3' hi ⟨x3, k3, us, e1, e2⟩ ⟨eH, hx⟩
    subst eH
    refine ⟨wipe_set1, ?_⟩
    refine et_yes (H := H3') _ (Ex.refl _) _ fun H4 x4 => ?_
    rw [if_pos rfl]
    refine he D i x H4 hx hD (x3.trans x4) (k3.up x4) H4 (Ex.refl H4) _ fun y H5 x5 hy => ?_
    have lus := dps_len e2
    rw [List.length_map, List.length_range] at lus
    refine ⟨us, x5 _ _ (x4 _ _ e1), by omega, Ex.mut (x3.trans (x4.trans x5)) hD, fun z hz => ?_, us ++ [y], upd_same, ?_⟩
    · by_cases e : z = D
      · rw [e, upd_same]; intro q; cases q
      · rw [upd_ne e]; exact (k3.up x4).up x5 z hz
    · rw [List.range_succ, List.map_append]
      exact dps_ex put_ex _ _ (dps_app (DqAll.up e2 (x4.trans x5)) (.cons hy .nil))
  · intro H3 ⟨x3, k3, us, e1, e2⟩
    exact q _ H3 x3 (.lst (.inl (.inl (by rw [hid_ne (kn.new hD)]; exact e1))) (dps_ex show_ex _ _ e2))
theorem ed_lcRT {k N : Nat} {g : Nat → PyData} (kn : Kn b H) (ha : ED K b ta σ H (.int (N : Nat))) (hN : N ≤ 1000)
    (he : ∀ (D : Addr) (i : Nat) (H0 H3 : Hp), i < N → Ex H H0 → H0 D = none → Ex H0 H3 → Kn (D :: b) H3 → ED K (D :: b) te ((wipe σ [k]).set k (some (.int (i : Nat)))) H3 (g i)) :
    ED K b (tLc (iRng1 (tCons ta tNil)) (gName k) tYes te [k]) σ H (.list ((List.range N).map g)) := fun H1 x1 Q q =>
  ha H1 x1 _ fun x H2 x2 hx => by
    have e := dq_int hx
    subst e
    have hsl : sizeLine = 16777216 := sizeLine_eq
    have wk : Walk (Itr 0 N) N (fun _ => True) (YAt ((List.range N).map fun i => V.int ((i : Nat) : Int))) := walk_range.mono (fun _ _ => trivial) fun i H x H' hi _ ⟨e, h⟩ => ⟨e, by
      rw [List.getElem?_map, List.getElem?_range hi, h]
      show some (V.int ((i : Nat) : Int)) = some (V.int (0 + (i : Int)))
      rw [Int.zero_add]⟩
    refine ⟨(N : Nat), rfl, by omega, by omega, lc_data (K := K) (g := g) wk (by rw [List.length_map, List.length_range]) (by omega) (kn.up (x1.trans x2)) (fun _ _ => trivial) (fun D i x H3 hx hD x3 k3 => ?_) fun v H3 x3 hv => q v H3 (x2.trans x3) hv⟩
    have hi : i < N := by
      have := (List.getElem?_eq_some_iff.mp hx).1
      rw [List.length_map, List.length_range] at this
      exact this
    rw [List.getElem?_map, List.getElem?_range hi] at hx
    have ex := (Option.some.inj hx).symm
    subst ex
    exact he D i H2 H3 hi (x1.trans x2) hD x3 k3
theorem str_eqV {H : Hp} : ∀ {vs us : List V} {xs : List Str}, DqAll K b H vs (xs.map .str) → DqAll K b H us (xs.map .str) → Paired (EqV K H 1) vs us
  | _, _, [], .nil, .nil => .nil
  | _, _, x :: xs, .cons h1 t1, .cons h2 t2 => by
    have e1 := dq_str h1
    have e2 := dq_str h2
    subst e1 e2
    exact .cons (.inl ⟨rfl, rfl⟩) (str_eqV t1 t2)
/-- two lists of the same texts -/
theorem ed_eqV {xs : List Str} (ha : ED K b ta σ H (.list (xs.map .str))) (hb : ED K b tb σ H (.list (xs.map .str))) : ED K b (tOp (rEqV K) ta tb) σ H (.bool true) :=
  ed_op ha hb fun H1 v u Q _ hx hy q => by
    cases hx with
    | lst g1 g2 =>
      cases hy with
      | lst f1 f2 => exact ⟨1, by decide, .inl ⟨_, _, _, _, rfl, rfl, ex_l hid_le g1, ex_l hid_le f1, str_eqV g2 f2⟩, q _ H1 (Ex.refl H1) (.bl _)⟩
theorem g_three {i j l : Nat} {d1 d2 d3 : PyData} (h : ED K b te σ H (.tuple [d1, d2, d3])) (k : ∀ v w u H', Ex H H' → Dq K b H' v d1 → Dq K b H' w d2 → Dq K b H' u d3 → ts D (((σ.set i (some v)).set j (some w)).set l (some u)) H') : tSeq (tAsg te (gTup K 3 (gCons (gName i) (gCons (gName j) (gCons (gName l) gNil))))) ts D σ H :=
  h H (Ex.refl H) _ fun v H1 x hv => by
    cases hv with
    | @tup a xs _ h1 hn h2 =>
    cases h2 with
    | @cons v1 _ _ _ a1 h2 =>
    cases h2 with
    | @cons v2 _ _ _ a2 h2 =>
    cases h2 with
    | @cons v3 _ _ _ a3 h2 =>
    cases h2
    exact ⟨a, [v1, v2, v3], rfl, ex_t hid_le h1, rfl, v1, [v2, v3], rfl, v2, [v3], rfl, v3, [], rfl, rfl, k v1 v2 v3 H1 x a1 a2 a3⟩
/-- a list display, twice -/
theorem ed_rep2 (kn : Kn b H) (h : EA K b t σ H ds) (hl : ds.length ≤ 1000) : ED K b (tOp rRep (tLst t) (tC (.int 2))) σ H (.list (ds ++ ds)) := fun H1 x1 Q q =>
  h H1 x1 _ fun vs H2 x2 hvs => by
    have hsl : sizeLine = 16777216 := sizeLine_eq
    have lv := dps_len hvs
    refine ⟨by omega, fun p hp => ⟨p, 2, vs, rfl, rfl, upd_same, by decide, by decide, by show vs.length * 2 ≤ sizeLine; omega, fun r hr => ?_⟩⟩
    have e : (List.replicate (2 : Int).toNat vs).flatten = vs ++ vs := by
      show vs ++ (vs ++ []) = _
      rw [List.append_nil]
    rw [e]
    have x12 : Ex H1 (upd H2 p (.lst vs)) := x2.trans (Ex.new hp)
    exact q _ _ (x12.trans (Ex.new hr)) (.lst (.inl (.inl (hid_new ((kn.up (x1.trans x12)).new hr)))) (dps_app (DqAll.up (hvs.up (Ex.new hp)) (Ex.new hr)) (DqAll.up (hvs.up (Ex.new hp)) (Ex.new hr))))
end
def spRi (K : PySem.W.Frag) : Sp := fun vs H Q _ => ∃ b tv ts hs x t, ∃ (is : List Int) (uv : V), vs = [tv, .str x, uv] ∧ Kn b H ∧ Dq K b H tv (treeT ts) ∧ ts.length ≤ 100 ∧ TtOk hs 6 (tOf ts) ∧ tOf ts x = some t ∧ t.1.length = is.length ∧ (∀ i ∈ is, Wth i) ∧ Dq K b H uv (.tuple (is.map PyData.int)) ∧ ∀ H', Ex H H' → Q (.bl true) H'
section
variable {P : Program} {w : World} {K : PySem.W.Frag} {mg : Str → Option Value} {base : Heap} {f g5 g6 : Addr} {fd gd5 gd6 : FuncData} {bd : List Value}
theorem ok_ri (D : Def K mg "_law_right" s_ri PRi f fd) (B : Blt mg) (B2 : Blt2 mg) (Dm : Def K mg "_law_meant" s_lm PLm g5 gd5) (Gm : FnOk P w K mg base CX0 201 g5 gd5 PLm (spLM K 100))
    (mM : mg "meant" = some (.ref g6)) (kM : PySem.W.keepIn K (.ref g6) = true) (GM : FnOk P w K mg base CX0 201 g6 gd6 PMe (spMe K 100)) (hb : Binds K gd6 PMe bd) (hd : Vals [.int 60] bd) : FnG P w K mg base 202 f fd PRi (spRi K) := by
  refine D.okG sc_ri (fun vs H Q E ⟨b, tv, ts, hs, x, t, is, uv, e, _⟩ => by rw [e]; rfl) (fun cdv A outer s H vs Q E hg hr h => ?_)
  obtain ⟨b, tv, ts, hs, x, t, is, uv, rfl, kn, htv, hts, hT, et, el, wi, huv, q⟩ := h
  refine ⟨_, pss_cons (ps_asg (pe_cd Dm Gm (hr.mono (by decide)) (pa_cons (pv 0) (pa_cons (pv 1) (pa_cons (pv 2) (pa_cons pe_int pa_nil))))) (pg_tup rfl (pgs_cons (pg_name (i := 3) sc_ri.nd rfl (Or.inl rfl)) (pgs_cons (pg_name (i := 4) sc_ri.nd rfl (Or.inl rfl)) (pgs_cons (pg_name (i := 5) sc_ri.nd rfl (Or.inl rfl)) pgs_nil)))))
    (pss_one (ps_ret (pe_cmpR (op_eqV (hu64 hr)) (pe_lc (own := [("_law_turn", 6)]) (g := gName 6) (tt := tYes) (te := (tCB (rReprL K) (tCons (tCall (spMe K 100) [.int 60] E0 (tCons (tVar 0) (tCons (tVar 1) (tCons (tVar 2) tNil)))) tNil))) rfl sc_ri.nd (pi_range1 rfl B.range (pa_cons pe_int pa_nil)) (blkOk_by (N := NRi) (sc := defScope s_ri) (by decide +kernel)) (fun _ _ _ _ _ => (pg_name (i := 6) sc_ri.nd rfl (Or.inl rfl))) (fun _ _ _ _ _ => pts_nil) (fun _ _ _ _ _ => (pe_callB (r := rReprL K) (call_reprL hg (hu64 hr)) rfl B2.repr bb_repr (pa_cons (pe_call GM (hr.mono (by decide)) rfl mM kM hb hd pass0 (pa_cons (pv 0) (pa_cons (pv 1) (pa_cons (pv 2) pa_nil)))) pa_nil)))) (pe_op op_rep (pe_lst (pa_cons (pe_callB (call_reprL hg (hu64 hr)) rfl B2.repr bb_repr (pa_cons (pe_tupF (pa_cons (pv 3) (pa_cons (pv 4) pa_nil))) pa_nil)) pa_nil)) pe_int) (nomark _)))), ?_⟩
  have hsl : sizeLine = 16777216 := sizeLine_eq
  obtain ⟨n5, rfl, sq⟩ := dq_ints huv
  have ne : (begun (tOf ts) 100 t is ⟨60, []⟩).1 ≠ .s := begun_end hT et wi
  obtain ⟨a1, a2, a3⟩ := begun_ok (n := 100) (l := 60) hT et wi (by decide)
  obtain ⟨fo, fs⟩ := meant_fits (by omega) a2 a3
  have lm : ED K b (tCall (spLM K 100) [] E0 (tCons (tVar 0) (tCons (tVar 1) (tCons (tVar 2) (tCons (tC (.int 60)) tNil))))) [some tv, some (.str x), some (.ref n5), none, none, none, none] H (meantD 60 (begun (tOf ts) 100 t is ⟨60, []⟩)) := fun H1 x1 Q q =>
    ⟨tv, rfl, .str x, rfl, .ref n5, rfl, b, tv, ts, hs, 6, x, t, is, n5, 60, true, rfl, kn.up x1, Dq.up htv x1, hts, hT, et, el, wi, ex_t x1 sq, by decide, by decide, ne, fun w H3 x3 hw => q w _ x3 hw⟩
  have mE : ∀ {b' : List Addr} {σ' : L2.St} {H' : Hp}, Kn b' H' → Dq K b' H' tv (treeT ts) → SqT K H' n5 (is.map V.int) → σ'[0]? = some (some tv) → σ'[1]? = some (some (.str x)) → σ'[2]? = some (some (.ref n5)) → ED K b' (tCall (spMe K 100) [.int 60] E0 (tCons (tVar 0) (tCons (tVar 1) (tCons (tVar 2) tNil)))) σ' H' (meantP (begun (tOf ts) 100 t is ⟨60, []⟩)) := fun {b' σ' H'} kn' htv' sq' e3 e7 e5 H1 x1 Q q =>
    ⟨tv, e3, .str x, e7, .ref n5, e5, b', tv, ts, hs, 6, x, t, is, n5, 60, true, rfl, kn'.up x1, Dq.up htv' x1, hts, hT, et, el, wi, ex_t x1 sq', by decide, by decide, ne, fun w H3 x3 hw => q w _ x3 hw⟩
  refine g_three (K := K) (b := b) lm fun v3 v4 v5 H1 x1 h3 h4 h5 => ?_
  show tRet _ _ [some tv, some (.str x), some (.ref n5), some v3, some v4, some v5, none] H1
  have kn1 := kn.up x1
  have htv1 := Dq.up htv x1
  have lc := ed_lcRT (K := K) (b := b) (k := 6) (N := 2) (σ := [some tv, some (.str x), some (.ref n5), some v3, some v4, some v5, none]) (H := H1) (ta := tC (.int 2)) (te := tCB (rReprL K) (tCons (tCall (spMe K 100) [.int 60] E0 (tCons (tVar 0) (tCons (tVar 1) (tCons (tVar 2) tNil)))) tNil)) (g := fun _ => .str (meantP (begun (tOf ts) 100 t is ⟨60, []⟩)).shown) kn1 (ed_int (i := 2)) (by decide) fun Dl i H0 H4 hi y0 hD y1 k4 =>
    ed_reprL (mE k4 (dp_ex (hid_ex y1) _ _ (Dq.hide (Dq.up htv1 y0) hD)) (ex_t ((x1.trans y0).trans y1) sq) rfl rfl rfl) fo fs
  have lc : ED K b _ _ H1 (.list ([(meantP (begun (tOf ts) 100 t is ⟨60, []⟩)).shown, (meantP (begun (tOf ts) 100 t is ⟨60, []⟩)).shown].map PyData.str)) := lc
  have tup : ED K b (tTupF (tCons (tVar 3) (tCons (tVar 4) tNil))) [some tv, some (.str x), some (.ref n5), some v3, some v4, some v5, none] H1 (meantP (begun (tOf ts) 100 t is ⟨60, []⟩)) := ed_tup kn1 (ea_cons (ed_var (i := 3) rfl h3) (ea_cons (ed_var (i := 4) rfl h4) ea_nil)) (by rw [hsl]; show 2 ≤ 16777216; decide)
  have rp := ed_rep2 (K := K) (b := b) kn1 (ea_cons (ed_reprL tup fo fs) ea_nil) (by show 1 ≤ 1000; decide)
  have rp : ED K b _ _ H1 (.list ([(meantP (begun (tOf ts) 100 t is ⟨60, []⟩)).shown, (meantP (begun (tOf ts) 100 t is ⟨60, []⟩)).shown].map PyData.str)) := rp
  refine (ed_eqV (K := K) (b := b) lc rp) H1 (Ex.refl H1) _ fun v H3 x3 hv => ?_
  have ev := dq_bl hv
  subst ev
  exact q H3 (x1.trans x3)
end
end Wr

set_option Elab.async false
set_option linter.all false
set_option maxRecDepth 100000
set_option maxHeartbeats 4000000
namespace Wr
open PySem PySem.Spec PyProof.Rows L2 Evl
/-- numbers -/
def NumP (k : Nat) (d : PyData) : Prop := ∃ is : List Int, d = .tuple (is.map .int) ∧ k = is.length ∧ ∀ i ∈ is, Wth i
section
variable {K : PySem.W.Frag} {b : List Addr} {p : Addr} {n m k : Nat} {σ : L2.St} {H H' : Hp} {te te1 te2 te3 : TE} {tb ts : TS} {D : Ends} {P : PyData → Prop} {ds es : List PyData}
theorem eg_nm (pm : p ∈ b) (h : EG K b p n m te σ H (fun d => ∃ i, d = .int i ∧ Wth i)) : EG K b p n m (tTupF (tCons te tNil)) σ H (NumP 1) :=
  eg_tup (ega_cons pm h ega_nil) fun ds ⟨d, r, e, ⟨i, ei, wi⟩, er⟩ => by
    have hsl : sizeLine = 16777216 := sizeLine_eq
    subst er ei e
    exact ⟨by rw [hsl]; show 1 ≤ 16777216; decide, [i], rfl, rfl, fun j hj => by rw [List.mem_singleton.mp hj]; exact wi⟩
theorem ri_t {R : Bool → Hp → Prop} {x : Str} {t : List Str × List PyData} {tr : List Tup} {hs : Hds} (pm : p ∈ b) (kn : Kn b H) (bg : Bag p 0 H) (h1 : ED K b te1 σ H (treeT tr)) (h2 : ED K b te2 σ H (.str x)) (h3 : EG K b p 0 0 te3 σ H (NumP t.1.length)) (hT : TtOk hs 6 (tOf tr)) (et : tOf tr x = some t) (hl : tr.length ≤ 100)
    (k : ∀ H', ExB p H H' → Bag p 0 H' → Kn b H' → R false H') : tNot (tB (tCall (spRi K) [] E0 (tCons te1 (tCons te2 (tCons te3 tNil))))) σ H R :=
  h1 H (Ex.refl H) _ fun v H1 x1 hv => h2 H1 x1 _ fun u H2 x2 hu => by
    have eu := dq_str hu
    subst eu
    have x12 := x1.trans x2
    refine h3 H2 (exb x12) (kn.up x12) (bg.ex x12) _ fun w d H3 x3 b3 hw hd => ?_
    obtain ⟨is, e, hl', wi⟩ := hd
    subst e
    have kn3 := x3.kn (kn.up x12) b3
    exact ⟨b, v, tr, hs, x, t, is, w, rfl, kn3, (Dq.up hv x2).upB pm x3, hl, hT, et, hl', wi, hw, fun H4 x4 => ⟨true, rfl, k H4 ((exb x12).trans (x3.trans (exb x4))) (b3.ex x4) (kn3.up x4)⟩⟩
theorem or_t {t u : TT} {Q : Bool → Hp → Prop} (h : t σ H fun c H1 => if c = true then Q true H1 else u σ H1 Q) : tOr t u σ H Q := h
theorem ifs_t {c : TT} {t u : TS} (h : c σ H fun b H1 => if b = true then t D σ H1 else u D σ H1) : tIfS c t u D σ H := h
/-- over a list, a bag at hand -/
theorem g_forD {i : Nat} {Iv : L2.St → Prop} (pm : p ∈ b) (h : EG K b p 0 0 te σ H (fun d => ∃ ds, d = .list ds ∧ ∀ e ∈ ds, P e)) (kn : Kn b H) (bg : Bag p 0 H) (h0 : Iv σ)
    (step : ∀ v d σ' H' (N : L2.St → Hp → Prop), ExB p H H' → Bag p 0 H' → Kn b H' → Dq K b H' v d → P d → Iv σ' → (∀ σ2 H2, Iv σ2 → ExB p H' H2 → Bag p 0 H2 → N σ2 H2) → tb { D with nx := N, ct := N, bk := D.nx } (σ'.set i (some v)) H')
    (fin : ∀ σ' H', ExB p H H' → Bag p 0 H' → Iv σ' → D.nx σ' H') : tFor (iList K te) (gName i) tb D σ H :=
  h H (ExB.refl p H) kn bg _ fun v d H1 x1 b1 hv hd => by
    obtain ⟨ds, e, hP⟩ := hd
    subst e
    cases hv with
    | @lst a xs _ g1 g2 =>
      refine ⟨a, rfl, ⟨_, ex_l hid_le g1⟩, ?_⟩
      refine for_it (walk_list (K := K) (xs := xs)) (fun i σ' H' => Iv σ' ∧ ExB p H1 H' ∧ Bag p 0 H') ⟨h0, ExB.refl p H1, b1⟩ (fun i σ' H' _ ⟨_, x, _⟩ => ex_l hid_le (ex_l (hid_exB pm x) g1)) ?_ ?_
      · intro i xv σ' Ha Ha' hi ⟨hI, xa, ba⟩ ⟨eH, hx⟩
        subst eH
        obtain ⟨sd, hsd, hq⟩ := dps_at g2 hx
        exact step xv sd σ' _ _ (x1.trans xa) ba ((x1.trans xa).kn kn ba) (dp_ex (hid_exB pm xa) _ _ hq) (hP sd (List.mem_of_getElem? hsd)) hI fun σ2 H2 hI2 x2 b2 => ⟨hI2, xa.trans x2, b2⟩
      · intro σ' Ha ⟨hI, xa, ba⟩
        exact fin σ' Ha (x1.trans xa) ba hI
theorem g_forD' {i : Nat} {Iv : L2.St → Prop} (pm : p ∈ b) (h : EG K b p 0 0 te σ H (fun d => ∃ ds, d = .list ds ∧ ∀ e ∈ ds, P e)) (kn : Kn b H) (bg : Bag p 0 H) (h0 : Iv σ)
    (step : ∀ v d σ' H' (N : L2.St → Hp → Prop), ExB p H H' → Bag p 0 H' → Kn b H' → Dq K b H' v d → P d → Iv σ' → (∀ σ2 H2, Iv σ2 → ExB p H' H2 → Bag p 0 H2 → N σ2 H2) → tb { D with nx := N, ct := N, bk := D.nx } (σ'.set i (some v)) H')
    (fin : ∀ σ' H', ExB p H H' → Bag p 0 H' → Iv σ' → D.nx σ' H') : tFor (iList K te) (gName i) tb D σ H := g_forD pm h kn bg h0 step fin
end
def lwDown : PyData := .tuple [.str "call", .str "a", .tuple [.tuple [.str "less", .tuple [.str "name", .str "n"], .int 1]]]
theorem lwDown_v {hs : Hds} (ha : (("a" : Str), 1) ∈ hs) {n : Nat} : VaP hs (n + 3) lwDown := by
  show VaP hs (n + 3) (.tuple [.str "call", .str "a", .tuple [.tuple [.str "less", .tuple [.str "name", .str "n"], .int 1]]])
  exact (.call ha (by decide +kernel) (all_cons (.op (by decide +kernel) (.name (by decide +kernel)) (.num ⟨by decide, by decide⟩)) all_nil))
def lwFirst : PyData := .tuple [.str "if", .tuple [.str "name", .str "n"], .tuple [.tuple [.str "set", .str "x", lwDown]], .tuple []]
theorem lwFirst_p {hs : Hds} (ha : (("a" : Str), 1) ∈ hs) {n : Nat} : SaP hs 3 (n + 2) lwFirst := (.ite (.name (by decide +kernel)) (all_cons (.set (by decide +kernel) (lwDown_v ha)) all_nil) all_nil)
def lwSome : List PyData := [.tuple [.str "try", .tuple [lwFirst, .tuple [.str "say", .tuple [.str "name", .str "n"]]], .str "x", .tuple [.tuple [.str "say", .tuple [.str "name", .str "x"]], .tuple [.str "back", .int 3]]]]
def lwPlain : List PyData := [lwFirst, .tuple [.str "say", .tuple [.str "name", .str "n"]]]
def hs5 : Hds := [("a", 1), ("b", 0)]
theorem ha5 : (("a" : Str), 1) ∈ hs5 := List.mem_cons_self
theorem lwSome_p : ∀ d ∈ lwSome, SaP hs5 3 3 d := by
  have ha := ha5
  exact (all_cons (.tri (by decide +kernel) (all_cons (lwFirst_p ha) (all_cons (.one (by decide +kernel) (.name (by decide +kernel))) all_nil)) (all_cons (.one (by decide +kernel) (.name (by decide +kernel))) (all_cons (.one (by decide +kernel) (.num ⟨by decide, by decide⟩)) all_nil))) all_nil)
theorem lwPlain_p : ∀ d ∈ lwPlain, SaP hs5 3 3 d := by
  have ha := ha5
  exact (all_cons (lwFirst_p ha) (all_cons (.one (by decide +kernel) (.name (by decide +kernel))) all_nil))
def lwB : List PyData := [.tuple [.str "say", .tuple [.str "call", .str "a", .tuple [.int 11]]], .tuple [.str "say", .tuple [.str "call", .str "a", .tuple [.int 10]]]]
theorem lwB_p : ∀ d ∈ lwB, SaP hs5 3 3 d := by
  have ha := ha5
  exact (all_cons (.one (by decide +kernel) (.call ha (by decide +kernel) (all_cons (.num ⟨by decide, by decide⟩) all_nil))) (all_cons (.one (by decide +kernel) (.call ha (by decide +kernel) (all_cons (.num ⟨by decide, by decide⟩) all_nil))) all_nil))
abbrev lwT (ss : List PyData) : List Tup := [("a", n1, ss), ("b", [], lwB)]
theorem lwT_nd {ss : List PyData} : ((lwT ss).map (·.1)).Nodup := (show ([("a" : Str), "b"] : List Str).Nodup by decide +kernel)
theorem lwT_t {ss : List PyData} (h : ∀ d ∈ ss, SaP hs5 3 3 d) : TtOk hs5 6 (tOf (lwT ss)) := tt2 rfl lwT_nd (fits2 n1_fits n0_fits) h lwB_p
theorem lwT_a {ss : List PyData} : tOf (lwT ss) "a" = some ((n1, ss) : List Str × List PyData) := tof_mem (ts := lwT ss) (e := ("a", n1, ss)) lwT_nd List.mem_cons_self
theorem lwT_b {ss : List PyData} : tOf (lwT ss) "b" = some (([], lwB) : List Str × List PyData) := tof_mem (ts := lwT ss) (e := ("b", [], lwB)) lwT_nd (List.mem_cons_of_mem _ List.mem_cons_self)
abbrev s_law : Stmt := topS 34
abbrev NLw : List Str := ["_law_script", "_law_at", "_law_bag_here", "_law_turn", "_law_tree", "_law_place", "_law_down", "_law_first", "_law_some", "_law_sayings"]
theorem sc_law : FnScope NLw ["_law_script"] (defScope s_law) := ⟨rfl, rfl, rfl, by decide +kernel, rfl, by decide +kernel, by decide +kernel⟩
section
variable {X : Cx}
def rCatL (K : PySem.W.Frag) : R2 := fun x y H Q => ∃ l c xs zs, x = .ref l ∧ y = .ref c ∧ SqL K H l xs ∧ SqL K H c zs ∧ xs.length + zs.length ≤ sizeLine ∧ ∀ p, H p = none → Q (.ref p) (upd H p (.lst (xs ++ zs)))
theorem op_catL : OpR X (binaryOp .Add) (rCatL X.K) := fun pins s σ H x y v u Q I rx ry ⟨l, c, xs, zs, ex, ey, hl, hc, hz, q⟩ => by
  subst ex ey
  cases rx
  cases ry
  obtain ⟨us, ru, ⟨o1, k1, g1, a1, b1, d1⟩, z1⟩ := I.list hl
  obtain ⟨ws, rw', ⟨o2, k2, g2, a2, b2, d2⟩, z2⟩ := I.list hc
  obtain ⟨oc, od, odt, osl⟩ := o1
  obtain ⟨pc, pd, pdt, psl⟩ := o2
  dsimp only at a1 b1 d1 a2 b2 d2
  subst a1 b1 d1 a2 b2 d2
  have lu := ru.length
  have lw := rw'.length
  refine concat_meets ⟨_, g1, rfl⟩ ⟨_, g2, rfl⟩ noFill_list_add seq_list_add PySem.F.slot_list_add PySem.F.entry_list_add (PySem.F.args_list_add_2 _ _) (list_addW l c us.toArray ws.toArray k1 k2 none none osl psl (by rw [List.size_toArray, List.size_toArray]; omega)) ⟨g1, g2, ?_⟩
  rw [show us.toArray ++ ws.toArray = (us ++ ws).toArray by simp]
  exact ⟨.ref _, _, I.lnew (t' := s.toks) (ru.append rw') (by rw [List.length_append]; omega), rfl, q _ I.fresh⟩
end
section
variable {K : PySem.W.Frag} {b : List Addr} {a : Addr} {n m k : Nat} {σ : L2.St} {H H' : Hp} {ta tb te : TE} {P P1 P2 : PyData → Prop} {ds es : List PyData}
theorem ed_catL (kn : Kn b H) (ha : ED K b ta σ H (.list ds)) (hb : ED K b tb σ H (.list es)) (hl : ds.length + es.length ≤ sizeLine) : ED K b (tOp (rCatL K) ta tb) σ H (.list (ds ++ es)) :=
  ed_op ha hb fun H1 x y Q x1 hx hy q => by
    cases hx with
    | lst g1 g2 =>
    cases hy with
    | lst g3 g4 =>
    refine ⟨_, _, _, _, rfl, rfl, ex_l hid_le g1, ex_l hid_le g3, by rw [dps_len g2, dps_len g4]; exact hl, fun p hp => ?_⟩
    exact q _ _ (Ex.new hp) (.lst (.inl (.inl (hid_new ((kn.up x1).new hp)))) (DqAll.up (dps_app g2 g4) (Ex.new hp)))
theorem eg_catL (ha : a ∈ b) (h1 : EG K b a n k ta σ H P1) (h2 : EG K b a k m tb σ H P2) (hi : ∀ d e, P1 d → P2 e → ∃ ds es, d = .list ds ∧ e = .list es ∧ ds.length + es.length ≤ sizeLine ∧ P (.list (ds ++ es))) : EG K b a n m (tOp (rCatL K) ta tb) σ H P :=
  eg_op ha h1 h2 fun d e H1 x y Q p1 p2 _ kn1 hx hy q => by
    obtain ⟨ds, es, rfl, rfl, hl, p⟩ := hi d e p1 p2
    exact (ed_catL (σ := []) kn1 (ed_c hx) (ed_c hy) hl) H1 (Ex.refl H1) Q fun v H2 x2 hv => q v _ H2 x2 hv p
end
section
variable {P : Program} {w : World} {K : PySem.W.Frag} {mg : Str → Option Value} {base : Heap} {f g1 g2 g3 g4 g5 g6 : Addr} {fd gd1 gd2 gd3 gd4 gd5 gd6 : FuncData}
theorem ok_law (D : Def K mg "law" s_law ["_law_script"] f fd) (B : Blt mg) (B2 : Blt2 mg) (Db : Def K mg "_law_bag" s_bag ["_law_script", "_law_at"] g1 gd1) (Gb : FnOk P w K mg base CX0 1 g1 gd1 ["_law_script", "_law_at"] (spBag K)) (Dch : Def K mg "_law_chain" s_ch ["_law_bag_here"] g2 gd2) (Gch : FnOk P w K mg base CX0 3 g2 gd2 ["_law_bag_here"] (spG K 0 (· = []) fun _ d => TreC d))
    (Dt : Def K mg "_law_take" s_take ["_law_bag_here", "_law_many"] g3 gd3) (Ddp : Def K mg "_law_deepest" s_dp ["_law_bag_here"] g4 gd4) (Gdp : FnOk P w K mg base CX0 2 g4 gd4 ["_law_bag_here"] (spG K 0 (· = []) fun _ d => TreL d)) (Dan : Def K mg "_law_begun_anew" s_an ["_law_bag_here"] g5 gd5) (Gan : FnOk P w K mg base CX0 2 g5 gd5 ["_law_bag_here"] (spG K 0 (· = []) fun _ d => TreL d)) (Dri : Def K mg "_law_right" s_ri PRi g6 gd6) (Gri : FnG P w K mg base 202 g6 gd6 PRi (spRi K)) : FnG P w K mg base 203 f fd ["_law_script"] (spLaw K) := by
  refine D.okG sc_law (fun vs H Q E ⟨a, ns, e, _⟩ => by rw [e]; rfl) (fun cdv A outer s H vs Q E hg hr h => ?_)
  obtain ⟨a, ns, rfl, hS, hn, q⟩ := h
  have Gt := ok_take (P := P) (w := w) (base := base) Dt
  refine ⟨_, pss_cons (ps_for PassesOwn.never rfl (pi_range1 rfl B.range (pa_cons (pe_callB (cr_max2 rfl) rfl B2.max bb_max (pa_cons pe_int (pa_cons (pe_callB (cr_min2 rfl) rfl B2.min bb_min (pa_cons pe_int (pa_cons (pe_callB call_lenD1 rfl B.len bb_len (pa_cons (pv 0) pa_nil)) pa_nil))) pa_nil))) pa_nil)) (pg_name (i := 1) sc_law.nd rfl (Or.inl rfl)) (pss_cons (ps_set (i := 2) sc_law.nd rfl (Or.inl rfl) (pe_cd Db Gb (hr.mono (by decide)) (pa_cons (pv 0) (pa_cons (pv 1) pa_nil))))
    (pss_cons (ps_for PassesOwn.never rfl (pi_range1 rfl B.range (pa_cons pe_int pa_nil)) (pg_name (i := 3) sc_law.nd rfl (Or.inl rfl)) (pss_cons (ps_set (i := 4) sc_law.nd rfl (Or.inl rfl) (pe_cd Dch Gch (hr.mono (by decide)) (pa_cons (pv 2) pa_nil)))
    (pss_cons (ps_set (i := 5) sc_law.nd rfl (Or.inl rfl) (pe_op op_mul (pe_cd Dt Gt (hr.mono (by decide)) (pa_cons (pv 2) (pa_cons (pe_callB call_lenD1 rfl B.len bb_len (pa_cons (pv 4) pa_nil)) pa_nil))) (pe_cd Dt Gt (hr.mono (by decide)) (pa_cons (pv 2) (pa_cons pe_int pa_nil)))))
    (pss_one (ps_if (pt_not (pt_val (pe_cdG Dri Gri hg hr (pa_cons (pv 4) (pa_cons (pe_ix ix_tup (pe_ix ix_tup (pv 4) (pv 5) (fun _ _ => rfl)) pe_int (fun _ _ => rfl)) (pa_cons (pe_tupF (pa_cons (pe_op op_sub (pe_cd Dt Gt (hr.mono (by decide)) (pa_cons (pv 2) (pa_cons pe_int pa_nil))) pe_int) pa_nil)) pa_nil)))))) (pss_one (ps_ret pe_bl)) pss_nil)))))
    (pss_cons (ps_for PassesOwn.never rfl (pi_list (pe_op op_catL (pe_op op_catL (pe_cd Ddp Gdp (hr.mono (by decide)) (pa_cons (pv 2) pa_nil)) (pe_cd Ddp Gdp (hr.mono (by decide)) (pa_cons (pv 2) pa_nil))) (pe_cd Dan Gan (hr.mono (by decide)) (pa_cons (pv 2) pa_nil)))) (pg_name (i := 4) sc_law.nd rfl (Or.inl rfl)) (pss_one (ps_if (pt_not (pt_val (pe_cdG Dri Gri hg hr (pa_cons (pv 4) (pa_cons pe_str (pa_cons (pe_tupF (pa_cons (pe_op op_add pe_int (pe_cd Dt Gt (hr.mono (by decide)) (pa_cons (pv 2) (pa_cons pe_int pa_nil)))) pa_nil)) pa_nil)))))) (pss_one (ps_ret pe_bl)) pss_nil)))
    (pss_cons (ps_set (i := 6) sc_law.nd rfl (Or.inl rfl) (pe_tupF (pa_cons pe_str (pa_cons pe_str (pa_cons (pe_tupF (pa_cons (pe_tupF (pa_cons pe_str (pa_cons (pe_tupF (pa_cons pe_str (pa_cons pe_str pa_nil))) (pa_cons pe_int pa_nil)))) pa_nil)) pa_nil)))))
    (pss_cons (ps_set (i := 7) sc_law.nd rfl (Or.inl rfl) (pe_tupF (pa_cons pe_str (pa_cons (pe_tupF (pa_cons pe_str (pa_cons pe_str pa_nil))) (pa_cons (pe_tupF (pa_cons (pe_tupF (pa_cons pe_str (pa_cons pe_str (pa_cons (pv 6) pa_nil)))) pa_nil)) (pa_cons (pe_tupF pa_nil) pa_nil))))))
    (pss_cons (ps_set (i := 8) sc_law.nd rfl (Or.inl rfl) (pe_tupF (pa_cons (pe_tupF (pa_cons pe_str (pa_cons (pe_tupF (pa_cons (pv 7) (pa_cons (pe_tupF (pa_cons pe_str (pa_cons (pe_tupF (pa_cons pe_str (pa_cons pe_str pa_nil))) pa_nil))) pa_nil))) (pa_cons pe_str (pa_cons (pe_tupF (pa_cons (pe_tupF (pa_cons pe_str (pa_cons (pe_tupF (pa_cons pe_str (pa_cons pe_str pa_nil))) pa_nil))) (pa_cons (pe_tupF (pa_cons pe_str (pa_cons pe_int pa_nil))) pa_nil))) pa_nil))))) pa_nil)))
    (pss_one (ps_for PassesOwn.never rfl (pi_list (pe_lst (pa_cons (pe_tupF (pa_cons (pv 7) (pa_cons (pe_tupF (pa_cons pe_str (pa_cons (pe_tupF (pa_cons pe_str (pa_cons pe_str pa_nil))) pa_nil))) pa_nil))) (pa_cons (pv 8) pa_nil)))) (pg_name (i := 9) sc_law.nd rfl (Or.inl rfl)) (pss_cons (ps_set (i := 4) sc_law.nd rfl (Or.inl rfl) (pe_tupF (pa_cons (pe_tupF (pa_cons pe_str (pa_cons (pe_tupF (pa_cons pe_str pa_nil)) (pa_cons (pv 9) pa_nil)))) (pa_cons (pe_tupF (pa_cons pe_str (pa_cons (pe_tupF pa_nil) (pa_cons (pe_tupF (pa_cons (pe_tupF (pa_cons pe_str (pa_cons (pe_tupF (pa_cons pe_str (pa_cons pe_str (pa_cons (pe_tupF (pa_cons pe_int pa_nil)) pa_nil)))) pa_nil))) (pa_cons (pe_tupF (pa_cons pe_str (pa_cons (pe_tupF (pa_cons pe_str (pa_cons pe_str (pa_cons (pe_tupF (pa_cons pe_int pa_nil)) pa_nil)))) pa_nil))) pa_nil))) pa_nil)))) pa_nil))))
    (pss_one (ps_if (PW.pt (pw_or (pt_not (pt_val (pe_cdG Dri Gri hg hr (pa_cons (pv 4) (pa_cons pe_str (pa_cons (pe_tupF (pa_cons (pe_op op_add pe_int (pe_cd Dt Gt (hr.mono (by decide)) (pa_cons (pv 2) (pa_cons pe_int pa_nil)))) pa_nil)) pa_nil)))))) (pw_or1 (pt_not (pt_val (pe_cdG Dri Gri hg hr (pa_cons (pv 4) (pa_cons pe_str (pa_cons (pe_tupF pa_nil) pa_nil))))))))) (pss_one (ps_ret pe_bl)) pss_nil))))))))))))
    (pss_one (ps_ret pe_bl)), ?_⟩
  have hsl : sizeLine = 16777216 := sizeLine_eq
  have hD : ∀ {H'}, Ex H H' → Dq K [] H' (.ref a) (.list (ns.map .int)) := fun {H'} x => by
    show Dd K (hid [] H') _ _
    rw [hid_nil]
    exact .lst (ex_l x hS) (ints_dps ns)
  have kn0 : ∀ {H' : Hp}, Kn [] H' := fun z hz => nomatch hz
  have cnt := ed_max2 (K := K) (b := []) (ed_int (i := 2)) (ed_min2 (ed_int (i := 4)) (ed_len (ed_var (σ := start NLw [.ref a]) (i := 0) rfl (hD (Ex.refl H))) (.inr (.inl rfl)) fun y e => by cases e))
  have c0 : ∀ ll : Int, 2 ≤ (if (if ll < 4 then ll else 4) > 2 then (if ll < 4 then ll else 4) else 2) ∧ (if (if ll < 4 then ll else 4) > 2 then (if ll < 4 then ll else 4) else 2) ≤ 4 := fun ll => by
    split <;> split <;> omega
  obtain ⟨cl, ch⟩ := c0 ((lenD (.list (ns.map PyData.int)) : Nat) : Int)
  generalize (if (if ((lenD (.list (ns.map PyData.int)) : Nat) : Int) < 4 then ((lenD (.list (ns.map PyData.int)) : Nat) : Int) else 4) > 2 then (if ((lenD (.list (ns.map PyData.int)) : Nat) : Int) < 4 then ((lenD (.list (ns.map PyData.int)) : Nat) : Int) else 4) else 2) = N at cnt cl ch
  refine g_forR (K := K) (b := []) (fun i σ' H' => (∃ u1 u2 u3 u4 u5 u6 u7 u8 u9 : Option V, σ' = [some (.ref a), u1, u2, u3, u4, u5, u6, u7, u8, u9]) ∧ Ex H H') cnt (by omega) (by omega) (fun H1 x1 => ⟨⟨none, none, none, none, none, none, none, none, none, rfl⟩, x1⟩) ?_ ?_
  · rintro i σ' H1 hi ⟨⟨u1, u2, u3, u4, u5, u6, u7, u8, u9, rfl⟩, x1⟩
    show tSeq _ _ _ [some (.ref a), some (.int (0 + (i : Int))), u2, u3, u4, u5, u6, u7, u8, u9] H1
    refine ⟨.ref a, rfl, .int (0 + (i : Int)), rfl, [], ns, (0 + (i : Int)), kn0, .cons (hD x1) (.cons (.int _) .nil), by omega, by omega, hn, fun p H2 hp x2 bg => ?_⟩
    have bg : Bag p 0 H2 := bg
    have pm : p ∈ [p] := List.mem_singleton.mpr rfl
    show tSeq _ _ _ [some (.ref a), some (.int (0 + (i : Int))), some (.ref p), u3, u4, u5, u6, u7, u8, u9] H2
    refine g_forR (K := K) (b := [p]) (N := 4) (fun i2 σ' H' => (∃ u3 u4 u5 u6 u7 u8 u9 : Option V, σ' = [some (.ref a), some (.int (0 + (i : Int))), some (.ref p), u3, u4, u5, u6, u7, u8, u9]) ∧ ExB p H2 H' ∧ Bag p 0 H') (ed_int (i := 4)) (by decide) (by decide) (fun H3 x3 => ⟨⟨_, _, _, _, _, _, _, rfl⟩, exb x3, bg.ex x3⟩) ?_ ?_
    · rintro i2 σ' H3 hi2 ⟨⟨u3, u4, u5, u6, u7, u8, u9, rfl⟩, x3, bg3⟩
      show tSeq _ _ _ [some (.ref a), some (.int (0 + (i : Int))), some (.ref p), some (.int (0 + (i2 : Int))), u4, u5, u6, u7, u8, u9] H3
      refine g_setG (K := K) (b := [p]) (a := p) (n := 0) (k := 0) (P1 := TreC) (eg_call (S := (· = [])) pm rfl ega_nil (fun ds e => e) fun ds d _ h => h) bg3.kn bg3 fun v d H4 x4 bg4 kn4 hv tc => ?_
      obtain ⟨hs, ts, ed, hT, l0, l6, hat⟩ := tc
      subst ed
      have bg4 : Bag p 0 H4 := bg4
      show tSeq _ _ _ [some (.ref a), some (.int (0 + (i : Int))), some (.ref p), some (.int (0 + (i2 : Int))), some v, u5, u6, u7, u8, u9] H4
      have elen : ∀ {H'}, ExB p H4 H' → ED K [p] (tCB (rLen K) (tCons (tVar 4) tNil)) [some (.ref a), some (.int (0 + (i : Int))), some (.ref p), some (.int (0 + (i2 : Int))), some v, u5, u6, u7, u8, u9] H' (.int (ts.length : Nat)) := fun {H'} x => (ed_len (ed_var (i := 4) rfl (hv.upB pm x)) (.inr (.inr rfl)) fun y e => by cases e).to (by
        show PyData.int (((ts.map Tup').length : Nat) : Int) = _
        rw [List.length_map])
      refine g_setG (K := K) (b := [p]) (a := p) (n := 0) (k := 0) (P1 := IntB (ts.length : Nat)) (eg_I (C := CMul) (g := fun i j => i * j) (k := 0) (P1 := IntB (ts.length : Nat)) (P2 := IntB 2) pm (eg_takeE (u := (ts.length : Nat)) (P1 := (· = .int (ts.length : Nat))) pm rfl (eg_pure (fun H' x' kn' => elen x') rfl) fun d e => ⟨_, e, by omega, by omega, Int.le_refl _⟩) (eg_take pm rfl (by decide) (by decide)) ?_) kn4 bg4 fun v5 d5 H5 x5 bg5 kn5 hv5 hd5 => ?_
      · rintro d e ⟨r, rfl, r0, r1⟩ ⟨z, rfl, z0, z1⟩
        have hz : z = 0 ∨ z = 1 := by omega
        refine ⟨r, z, rfl, rfl, .inr ⟨by omega, by omega⟩, r * z, rfl, ?_⟩
        rcases hz with rfl | rfl
        · rw [Int.mul_zero]
          exact ⟨Int.le_refl _, by omega⟩
        · rw [Int.mul_one]
          exact ⟨r0, r1⟩
      obtain ⟨r, er, r0, r1⟩ := hd5
      subst er
      have ev5 := dq_int hv5
      subst ev5
      obtain ⟨j, rfl⟩ : ∃ j : Nat, r = (j : Nat) := ⟨r.toNat, (Int.toNat_of_nonneg r0).symm⟩
      have hj : j < ts.length := by omega
      obtain ⟨e, hje⟩ : ∃ e, ts[j]? = some e := ⟨_, List.getElem?_eq_getElem hj⟩
      obtain ⟨et, e1⟩ := hat e (List.mem_of_getElem? hje)
      have bg5 : Bag p 0 H5 := bg5
      show tIfS _ _ _ _ [some (.ref a), some (.int (0 + (i : Int))), some (.ref p), some (.int (0 + (i2 : Int))), some v, some (.int (j : Nat)), u6, u7, u8, u9] H5
      have hv5t := hv.upB pm x5
      have at1 : atI (ts.map Tup') ((j : Nat) : Int) = some (Tup' e) := atI_nat (by rw [List.getElem?_map, hje]; rfl)
      refine ri_t (K := K) (b := [p]) pm kn5 bg5 (ed_var (i := 4) rfl hv5t) (ed_ixT (ed_ixT (ed_var (i := 4) rfl hv5t) (ed_var (i := 5) rfl (.int _)) at1) (ed_int (i := 0)) (atI0 (PyData.str e.1) _)) (e1 ▸ eg_nm pm (eg_I0 (k := 0) (g := fun i j => i - j) (P1 := IntB 25) (P2 := (· = .int 5)) pm (eg_take pm rfl (by decide) (by decide)) (eg_pure (fun _ _ _ => ed_int) rfl) (by
        rintro d e ⟨r, rfl, r0, r1⟩ rfl
        exact ⟨r, 5, rfl, rfl, _, rfl, by omega, by omega⟩))) hT et (by omega) fun H6 x6 b6 k6 => ?_
      show (if false = true then _ else _)
      rw [if_neg Bool.false_ne_true]
      exact ⟨⟨_, _, _, _, _, _, _, rfl⟩, x3.trans (x4.trans (x5.trans x6)), b6⟩
    rintro σ' H3 ⟨⟨u3, u4, u5, u6, u7, u8, u9, rfl⟩, x23, bg3⟩
    have tc : ∀ {σ' : L2.St} {H' : Hp}, σ'[2]? = some (some (.ref p)) → EG K [p] p 0 0 (tCall (spG K 0 (· = []) fun _ d => TreL d) [] E0 (tCons (tVar 2) tNil)) σ' H' TreL := fun {σ' H'} e => eg_call (S := (· = [])) pm e ega_nil (fun ds e => e) fun ds d _ h => h
    refine g_forD (K := K) (b := [p]) (p := p) (P := TreA) (Iv := fun σ' => ∃ u3 u4 u5 u6 u7 u8 u9 : Option V, σ' = [some (.ref a), some (.int (0 + (i : Int))), some (.ref p), u3, u4, u5, u6, u7, u8, u9]) pm
      (eg_catL (k := 0) (P1 := fun d => ∃ ds, d = .list ds ∧ ds.length ≤ 20 ∧ ∀ t ∈ ds, TreA t) (P2 := TreL) pm (eg_catL (k := 0) (P1 := TreL) (P2 := TreL) pm (tc rfl) (tc rfl) ?_) (tc rfl) ?_) bg3.kn bg3 ⟨_, _, _, _, _, _, _, rfl⟩ ?_ ?_
    · rintro d e ⟨ds, rfl, l1, h1⟩ ⟨es, rfl, l2, h2⟩
      refine ⟨ds, es, rfl, rfl, by omega, _, rfl, by rw [List.length_append]; omega, fun t ht => ?_⟩
      rcases List.mem_append.mp ht with ht | ht
      · exact h1 t ht
      · exact h2 t ht
    · rintro d e ⟨ds, rfl, l1, h1⟩ ⟨es, rfl, l2, h2⟩
      refine ⟨ds, es, rfl, rfl, by omega, _, rfl, fun t ht => ?_⟩
      rcases List.mem_append.mp ht with ht | ht
      · exact h1 t ht
      · exact h2 t ht
    · rintro v d σ' H4 N xa ba ka hv ⟨hs, ts, ss, rfl, hT, hl, et⟩ ⟨u3, u4, u5, u6, u7, u8, u9, rfl⟩ hN
      show tIfS _ _ _ _ [some (.ref a), some (.int (0 + (i : Int))), some (.ref p), u3, some v, u5, u6, u7, u8, u9] H4
      refine ri_t (K := K) (b := [p]) pm ka ba (ed_var (i := 4) rfl hv) ed_str (eg_nm pm (eg_I0 (k := 0) (g := fun i j => i + j) (P1 := (· = .int 9)) (P2 := IntB 3) pm (eg_pure (fun _ _ _ => ed_int) rfl) (eg_take pm rfl (by decide) (by decide)) (by
        rintro d e rfl ⟨r, rfl, r0, r1⟩
        exact ⟨9, r, rfl, rfl, _, rfl, by omega, by omega⟩))) hT et hl fun H5 x5 b5 k5 => ?_
      show (if false = true then _ else _)
      rw [if_neg Bool.false_ne_true]
      exact hN _ _ ⟨_, _, _, _, _, _, _, rfl⟩ x5 b5
    rintro σ' H4 x34 bg4 ⟨u3, u4, u5, u6, u7, u8, u9, rfl⟩
    have kn4 : Kn [p] H4 := bg4.kn
    have x24 := x23.trans x34
    show tSeq _ _ _ [some (.ref a), some (.int (0 + (i : Int))), some (.ref p), u3, u4, u5, u6, u7, u8, u9] H4
    refine g_set (K := K) (b := [p]) (d := lwDown) (ed_tupS kn4 (ea_cons (ed_str (x := "call")) (ea_cons (ed_str (x := "a")) (ea_cons (ed_tupS kn4 (ea_cons (ed_tupS kn4 (ea_cons (ed_str (x := "less")) (ea_cons (ed_tupS kn4 (ea_cons (ed_str (x := "name")) (ea_cons (ed_str (x := "n")) ea_nil)) (Nat.le_of_ble_eq_true rfl)) (ea_cons (ed_int (i := 1)) ea_nil))) (Nat.le_of_ble_eq_true rfl)) ea_nil) (Nat.le_of_ble_eq_true rfl)) ea_nil))) (Nat.le_of_ble_eq_true rfl)) fun v6 H5 x5 h6 => ?_
    show tSeq _ _ _ [some (.ref a), some (.int (0 + (i : Int))), some (.ref p), u3, u4, u5, some v6, u7, u8, u9] H5
    have kn5 := kn4.up x5
    refine g_set (K := K) (b := [p]) (d := lwFirst) (ed_tupS kn5 (ea_cons (ed_str (x := "if")) (ea_cons (ed_tupS kn5 (ea_cons (ed_str (x := "name")) (ea_cons (ed_str (x := "n")) ea_nil)) (Nat.le_of_ble_eq_true rfl)) (ea_cons (ed_tupS kn5 (ea_cons (ed_tupS kn5 (ea_cons (ed_str (x := "set")) (ea_cons (ed_str (x := "x")) (ea_cons (ed_var (i := 6) rfl h6) ea_nil))) (Nat.le_of_ble_eq_true rfl)) ea_nil) (Nat.le_of_ble_eq_true rfl)) (ea_cons (ed_tupS kn5 ea_nil (Nat.le_of_ble_eq_true rfl)) ea_nil)))) (Nat.le_of_ble_eq_true rfl)) fun v7 H6 x6 h7 => ?_
    show tSeq _ _ _ [some (.ref a), some (.int (0 + (i : Int))), some (.ref p), u3, u4, u5, some v6, some v7, u8, u9] H6
    have kn6 := kn5.up x6
    refine g_set (K := K) (b := [p]) (d := .tuple lwSome) (ed_tupS kn6 (ea_cons (ed_tupS kn6 (ea_cons (ed_str (x := "try")) (ea_cons (ed_tupS kn6 (ea_cons (ed_var (i := 7) rfl h7) (ea_cons (ed_tupS kn6 (ea_cons (ed_str (x := "say")) (ea_cons (ed_tupS kn6 (ea_cons (ed_str (x := "name")) (ea_cons (ed_str (x := "n")) ea_nil)) (Nat.le_of_ble_eq_true rfl)) ea_nil)) (Nat.le_of_ble_eq_true rfl)) ea_nil)) (Nat.le_of_ble_eq_true rfl)) (ea_cons (ed_str (x := "x")) (ea_cons (ed_tupS kn6 (ea_cons (ed_tupS kn6 (ea_cons (ed_str (x := "say")) (ea_cons (ed_tupS kn6 (ea_cons (ed_str (x := "name")) (ea_cons (ed_str (x := "x")) ea_nil)) (Nat.le_of_ble_eq_true rfl)) ea_nil)) (Nat.le_of_ble_eq_true rfl)) (ea_cons (ed_tupS kn6 (ea_cons (ed_str (x := "back")) (ea_cons (ed_int (i := 3)) ea_nil)) (Nat.le_of_ble_eq_true rfl)) ea_nil)) (Nat.le_of_ble_eq_true rfl)) ea_nil)))) (Nat.le_of_ble_eq_true rfl)) ea_nil) (Nat.le_of_ble_eq_true rfl)) fun v8 H7 x7 h8 => ?_
    show tFor _ _ _ _ [some (.ref a), some (.int (0 + (i : Int))), some (.ref p), u3, u4, u5, some v6, some v7, some v8, u9] H7
    have kn7 := kn6.up x7
    have h7 := Dq.up h7 x7
    have bg7 := ((bg4.ex x5).ex x6).ex x7
    have x27 := x24.trans (exb ((x5.trans x6).trans x7))
    refine g_forD' (K := K) (b := [p]) (p := p) (P := fun d => ∃ ss, d = .tuple ss ∧ ∀ e ∈ ss, SaP hs5 3 3 e) (Iv := fun σ' => ∃ u3 u4 u5 u6 u7 u8 u9 : Option V, σ' = [some (.ref a), some (.int (0 + (i : Int))), some (.ref p), u3, u4, u5, u6, u7, u8, u9]) pm
      (eg_pure (d := .list [.tuple lwPlain, .tuple lwSome]) (fun H9 x9 kn9 => ed_lst kn9 (ea_cons (ed_tupS kn9 (ea_cons (ed_var (i := 7) rfl (h7.upB pm x9)) (ea_cons (ed_tupS kn9 (ea_cons (ed_str (x := "say")) (ea_cons (ed_tupS kn9 (ea_cons (ed_str (x := "name")) (ea_cons (ed_str (x := "n")) ea_nil)) (Nat.le_of_ble_eq_true rfl)) ea_nil)) (Nat.le_of_ble_eq_true rfl)) ea_nil)) (Nat.le_of_ble_eq_true rfl)) (ea_cons (ed_var (i := 8) rfl (h8.upB pm x9)) ea_nil)) (by rw [hsl]; show 2 ≤ 16777216; decide)) ⟨_, rfl, all_cons ⟨_, rfl, lwPlain_p⟩ (all_cons ⟨_, rfl, lwSome_p⟩ all_nil)⟩) kn7 bg7 ⟨_, _, _, _, _, _, _, rfl⟩ ?_ fun σ' H' x' _ ⟨u3, u4, u5, u6, u7, u8, u9, e⟩ => ⟨⟨_, _, _, _, _, _, _, _, _, e⟩, (x1.trans (ex_exb hp x2 (x27.trans x')))⟩
    rintro v d σ' H8 N xa ba ka hv ⟨ss, rfl, hss⟩ ⟨u3, u4, u5, u6, u7, u8, u9, rfl⟩ hN
    show tSeq _ _ _ [some (.ref a), some (.int (0 + (i : Int))), some (.ref p), u3, u4, u5, u6, u7, u8, some v] H8
    refine g_set (K := K) (b := [p]) (d := treeT (lwT ss)) (ed_tupS ka (ea_cons (ed_tupS ka (ea_cons (ed_str (x := "a")) (ea_cons (ed_tupS ka (ea_cons (ed_str (x := "n")) ea_nil) (Nat.le_of_ble_eq_true rfl)) (ea_cons (ed_var (i := 9) rfl hv) ea_nil))) (Nat.le_of_ble_eq_true rfl)) (ea_cons (ed_tupS ka (ea_cons (ed_str (x := "b")) (ea_cons (ed_tupS ka ea_nil (Nat.le_of_ble_eq_true rfl)) (ea_cons (ed_tupS ka (ea_cons (ed_tupS ka (ea_cons (ed_str (x := "say")) (ea_cons (ed_tupS ka (ea_cons (ed_str (x := "call")) (ea_cons (ed_str (x := "a")) (ea_cons (ed_tupS ka (ea_cons (ed_int (i := 11)) ea_nil) (Nat.le_of_ble_eq_true rfl)) ea_nil))) (Nat.le_of_ble_eq_true rfl)) ea_nil)) (Nat.le_of_ble_eq_true rfl)) (ea_cons (ed_tupS ka (ea_cons (ed_str (x := "say")) (ea_cons (ed_tupS ka (ea_cons (ed_str (x := "call")) (ea_cons (ed_str (x := "a")) (ea_cons (ed_tupS ka (ea_cons (ed_int (i := 10)) ea_nil) (Nat.le_of_ble_eq_true rfl)) ea_nil))) (Nat.le_of_ble_eq_true rfl)) ea_nil)) (Nat.le_of_ble_eq_true rfl)) ea_nil)) (Nat.le_of_ble_eq_true rfl)) ea_nil))) (Nat.le_of_ble_eq_true rfl)) ea_nil)) (Nat.le_of_ble_eq_true rfl)) fun v4 H9 x9 h4 => ?_
    show tIfS _ _ _ _ [some (.ref a), some (.int (0 + (i : Int))), some (.ref p), u3, some v4, u5, u6, u7, u8, some v] H9
    refine ifs_t (or_t ?_)
    show tNot (tB (tCall (spRi K) [] E0 (tCons (tVar 4) (tCons (tC (.str "a")) (tCons (tTupF (tCons (tOp (rI0 fun i j => .int (i + j)) (tC (.int 10)) (tCall (spTake K) [] E0 (tCons (tVar 2) (tCons (tC (.int 5)) tNil)))) tNil)) tNil))))) [some (.ref a), some (.int (0 + (i : Int))), some (.ref p), u3, some v4, u5, u6, u7, u8, some v] H9 _
    have k9 := ka.up x9
    have b9 := ba.ex x9
    refine ri_t (σ := [some (.ref a), some (.int (0 + (i : Int))), some (.ref p), u3, some v4, u5, u6, u7, u8, some v]) (K := K) (b := [p]) pm k9 b9 (ed_var (i := 4) rfl h4) ed_str (eg_nm pm (eg_I0 (k := 0) (g := fun i j => i + j) (P1 := (· = .int 10)) (P2 := IntB 5) pm (eg_pure (fun _ _ _ => ed_int) rfl) (eg_take pm rfl (by decide) (by decide)) (by
      rintro d e rfl ⟨r, rfl, r0, r1⟩
      exact ⟨10, r, rfl, rfl, _, rfl, by omega, by omega⟩))) (lwT_t hss) lwT_a (by show 2 ≤ 100; decide) fun H10 x10 b10 k10 => ?_
    show (if false = true then _ else _)
    rw [if_neg Bool.false_ne_true]
    show tNot (tB (tCall (spRi K) [] E0 (tCons (tVar 4) (tCons (tC (.str "b")) (tCons (tTupF tNil) tNil))))) [some (.ref a), some (.int (0 + (i : Int))), some (.ref p), u3, some v4, u5, u6, u7, u8, some v] H10 _
    refine ri_t (σ := [some (.ref a), some (.int (0 + (i : Int))), some (.ref p), u3, some v4, u5, u6, u7, u8, some v]) (K := K) (b := [p]) pm k10 b10 (ed_var (i := 4) rfl (h4.upB pm x10)) ed_str (eg_tup (P := NumP 0) ega_nil fun ds e => by
      subst e
      exact ⟨Nat.zero_le _, [], rfl, rfl, fun i hi => nomatch hi⟩) (lwT_t hss) lwT_b (by show 2 ≤ 100; decide) fun H11 x11 b11 k11 => ?_
    show (if false = true then _ else _)
    rw [if_neg Bool.false_ne_true]
    exact hN _ _ ⟨_, _, _, _, _, _, _, rfl⟩ ((exb x9).trans (x10.trans x11)) b11
  · rintro σ' H1 ⟨⟨u1, u2, u3, u4, u5, u6, u7, u8, u9, rfl⟩, x1⟩
    exact q H1
end
end Wr

set_option Elab.async false
set_option linter.all false
set_option maxRecDepth 100000
set_option maxHeartbeats 4000000
namespace Wr
open PySem PySem.Spec PyProof.Rows L2 Evl
theorem def_mk {K : PySem.W.Frag} {h : Heap} {mg : Str → Option Value} {x : Str} {st : Stmt} {ps : List Str} {f : Addr} {oc : Value} {od an : Option Addr} {osl : Array (Option Value)} {kV doc pm cdv ct : Value} (X : K.In h) (G : h.Ns mainGlobals mg)
    (a : PySem.W.nsIn K mainGlobals x = some (some (.ref f))) (l : K.lookup f = some ⟨oc, od, .func (PySem.W.fnOf x x (defArgs st) (defBody st) (defScope st) .none kV doc pm an cdv ct), osl⟩) (c : PySem.W.codeIn K cdv x = true) (k : PySem.W.keepIn K (.ref f) = true)
    (hb : ∀ (kV doc pm : Value) (an : Option Addr) (cdv ct : Value) (us : List Value), us.length = ps.length → bindArgs (PySem.W.fnOf x x (defArgs st) (defBody st) (defScope st) .none kV doc pm an cdv ct) ⟨us, []⟩ = pure (ps.zip us)) :
    Def K mg x st ps f (PySem.W.fnOf x x (defArgs st) (defBody st) (defScope st) .none kV doc pm an cdv ct) :=
  ⟨fun_mk (st := st) l c k, (fun_mk (st := st) l c k).binds hb, PySem.W.mg_of X G a⟩
theorem word_tup {K : PySem.W.Frag} {a : Addr} {n : Nat} {its : List Value} {xs : List V} (l : K.lookup a = some ⟨.type "tuple", none, .seq its.toArray n, #[]⟩) (hz : its.length ≤ 1000) (r : Vals xs its) : ∀ H, SqT K H a xs ∧ TN K H a := fun H =>
  ⟨.inr ⟨_, its.toArray, n, l, rfl, rfl, by rw [List.size_toArray]; exact Nat.le_trans hz (by decide), by simpa using r⟩, .inr ⟨_, l, rfl, rfl⟩⟩

theorem exm_self {K : PySem.W.Frag} {S : Addr} (h1 : PySem.W.subIn K (.ref S) (.type "BaseException") = some true) (h2 : PySem.W.isClsIn K S = true) (h3 : PySem.W.typeIn K (.ref S) = some (.type "type")) (h4 : PySem.W.subIn K (.ref S) (.ref S) = some true) :
    PySem.W.exmOne K (.ref S) (.ref S) = some true := by
  have e1 : (PySem.W.subIn K (.ref S) (.type "BaseException") == some true) = true := by rw [h1] <;> rfl
  have e2 : ((PySem.W.clsIn K S).isSome && PySem.W.typeIn K (.ref S) == some (.type "type")) = true := by
    have h2' : (PySem.W.clsIn K S).isSome = true := h2
    rw [h2', h3] <;> rfl
  have e3 : PySem.W.kitCls K (.ref S) (.ref S) = some true := by
    unfold PySem.W.kitCls
    exact (if_pos e2).trans h4
  unfold PySem.W.exmOne
  exact (if_pos e1).trans e3
theorem exm_other {K : PySem.W.Frag} {S S2 : Addr} (h1 : PySem.W.subIn K (.ref S) (.type "BaseException") = some true) (h2 : PySem.W.isClsIn K S = true) (h3 : PySem.W.typeIn K (.ref S) = some (.type "type")) (h4 : PySem.W.subIn K (.ref S2) (.ref S) = some false) :
    PySem.W.exmOne K (.ref S2) (.ref S) = some false := by
  have e1 : (PySem.W.subIn K (.ref S) (.type "BaseException") == some true) = true := by rw [h1] <;> rfl
  have e2 : ((PySem.W.clsIn K S).isSome && PySem.W.typeIn K (.ref S) == some (.type "type")) = true := by
    have h2' : (PySem.W.clsIn K S).isSome = true := h2
    rw [h2', h3] <;> rfl
  have e3 : PySem.W.kitCls K (.ref S2) (.ref S) = some false := by
    unfold PySem.W.kitCls
    exact (if_pos e2).trans h4
  unfold PySem.W.exmOne
  exact (if_pos e1).trans e3
theorem all_mk {l : PySem.W.OpenLaw} {w : World} {K : PySem.W.Frag} {h : Heap} {mg : Str → Option Value} {fa CF fI CB CT fm Td T0 Dk f1 f2 f3 f4 f5 f6 f7 f8 f9 f10 f11 f12 f13 f14 f15 f16 f17 f18 f19 f20 e1 e2 e3 e4 e5 e6 e7 e8 e9 e10 : Addr} (X : K.In h) (G : h.Ns mainGlobals mg) (hfa : mg "law" = some (.ref fa))
    {nm q : Str} {Nn : Addr} {bs : List Value} {sn : List Str} {sub : List Value} {ab : Bool} {col : Option Bool} {dd : Option Addr} {mm0 mm1 mm2 mm3 mm5 : Option Value}
    {odI anI : Option Addr} {slI : Array (Option Value)} {ocI kVI dcI pmI cdI ctI : Value}
    (aC : PySem.W.nsIn K mainGlobals "Fault" = some (some (.ref CF)))
    (xL : K.lookup CF = some (excClassObj nm q CF Nn bs exTail true sn sub ab col dd mm0 mm1 mm2 mm3 mm5 "Exception.__new__"))
    (sa : PySem.W.findIn K (.ref CF) "__setattr__" = some (some (.builtin "object.__setattr__"))) (ga : PySem.W.findIn K (.ref CF) "__getattribute__" = some (some (.builtin "BaseException.__getattribute__"))) (gg : PySem.W.findIn K (.ref CF) "__getattr__" = some none) (nb : PySem.W.findIn K (.ref CF) "number" = some none)
    (aI : PySem.W.findIn K (.ref CF) "__init__" = some (some (.ref fI))) (tI : PySem.W.typeIn K (.ref fI) = some (.type "function"))
    (lI : K.lookup fI = some ⟨ocI, odI, .func (PySem.W.fnOf "__init__" "Fault.__init__" (defArgs s_fti) (defBody s_fti) (defScope s_fti) .none kVI dcI pmI anI cdI ctI), slI⟩) (cI : PySem.W.codeIn K cdI "Fault.__init__" = true) (kI : PySem.W.keepIn K (.ref fI) = true)
    (kC : PySem.W.keepIn K (.ref CF) = true) (eC : PySem.W.subIn K (.ref CF) (.type "BaseException") = some true) (tC : PySem.W.typeIn K (.ref CF) = some (.type "type")) (hC : PySem.W.hasDictIn K CF = true) (iC : PySem.W.isClsIn K CF = true) (sC : PySem.W.subIn K (.ref CF) (.ref CF) = some true)
    (vC : PySem.W.findCls K (.type "Exception") (.type "type") "__init__" = some (.val (.builtin "Exception.__init__")))
    (aT : PySem.W.nsIn K mainGlobals "Telling" = some (some (.ref CT))) (pT : PySem.W.plainGet K CT Str.empty = true) (hT : PySem.W.hasDictIn K CT = true) (oT : PySem.W.plainOver K CT = true) (sT : PySem.W.findIn K (.ref CT) "__setattr__" = some (some (.builtin "object.__setattr__")))
    (nT : PySem.W.findIn K (.ref CT) "tuples" = some none) (nL : PySem.W.findIn K (.ref CT) "left" = some none) (nS : PySem.W.findIn K (.ref CT) "spoken" = some none) (mT : PySem.W.makesIn K CT = true) (kT : PySem.W.keepIn K (.ref CT) = true)
    {odM anM : Option Addr} {slM : Array (Option Value)} {ocM dcM pmM cdM ctM : Value} {nTd nT0 : Nat} {tM : Tok}
    (aM : PySem.W.nsIn K mainGlobals "meant" = some (some (.ref fm))) (lM : K.lookup fm = some ⟨ocM, odM, .func (PySem.W.fnOf "meant" "meant" (defArgs s_me) (defBody s_me) (defScope s_me) (.ref Td) (.ref Dk) dcM pmM anM cdM ctM), slM⟩) (cM : PySem.W.codeIn K cdM "meant" = true) (kM : PySem.W.keepIn K (.ref fm) = true)
    (lTd : K.lookup Td = some ⟨.type "tuple", none, .seq (#[.ref T0]) nTd, #[]⟩) (lT0 : K.lookup T0 = some ⟨.type "tuple", none, .seq (#[]) nT0, #[]⟩) (lDk : PySem.W.nsIn K Dk "most" = some (some (.int 60 tM)))
    (aB : PySem.W.nsIn K mainGlobals "TooManyBegun" = some (some (.ref CB))) (qB : PySem.W.excIn K CB exTail "Exception.__new__" = true) (kB : PySem.W.keepIn K (.ref CB) = true) (uB : PySem.W.subIn K (.ref CB) (.type "BaseException") = some true) (tB : PySem.W.typeIn K (.ref CB) = some (.type "type")) (iB : PySem.W.isClsIn K CB = true) (sB : PySem.W.subIn K (.ref CB) (.ref CB) = some true) (uBF : PySem.W.subIn K (.ref CB) (.ref CF) = some false)
    {od1 an1 : Option Addr} {sl1 : Array (Option Value)} {oc1 kV1 dc1 pm1 cd1 ct1 : Value}
    (a1 : PySem.W.nsIn K mainGlobals "is_whole" = some (some (.ref f1))) (l1 : K.lookup f1 = some ⟨oc1, od1, .func (PySem.W.fnOf "is_whole" "is_whole" (defArgs s_is_whole) (defBody s_is_whole) (defScope s_is_whole) .none kV1 dc1 pm1 an1 cd1 ct1), sl1⟩) (c1 : PySem.W.codeIn K cd1 "is_whole" = true) (k1 : PySem.W.keepIn K (.ref f1) = true)
    {od2 an2 : Option Addr} {sl2 : Array (Option Value)} {oc2 kV2 dc2 pm2 cd2 ct2 : Value}
    (a2 : PySem.W.nsIn K mainGlobals "is_worth" = some (some (.ref f2))) (l2 : K.lookup f2 = some ⟨oc2, od2, .func (PySem.W.fnOf "is_worth" "is_worth" (defArgs s_is_worth) (defBody s_is_worth) (defScope s_is_worth) .none kV2 dc2 pm2 an2 cd2 ct2), sl2⟩) (c2 : PySem.W.codeIn K cd2 "is_worth" = true) (k2 : PySem.W.keepIn K (.ref f2) = true)
    {od3 an3 : Option Addr} {sl3 : Array (Option Value)} {oc3 kV3 dc3 pm3 cd3 ct3 : Value}
    (a3 : PySem.W.nsIn K mainGlobals "op_outcome" = some (some (.ref f3))) (l3 : K.lookup f3 = some ⟨oc3, od3, .func (PySem.W.fnOf "op_outcome" "op_outcome" (defArgs s_oo) (defBody s_oo) (defScope s_oo) .none kV3 dc3 pm3 an3 cd3 ct3), sl3⟩) (c3 : PySem.W.codeIn K cd3 "op_outcome" = true) (k3 : PySem.W.keepIn K (.ref f3) = true)
    {od4 an4 : Option Addr} {sl4 : Array (Option Value)} {oc4 kV4 dc4 pm4 cd4 ct4 : Value}
    (a4 : PySem.W.nsIn K mainGlobals "op_number" = some (some (.ref f4))) (l4 : K.lookup f4 = some ⟨oc4, od4, .func (PySem.W.fnOf "op_number" "op_number" (defArgs s_on) (defBody s_on) (defScope s_on) .none kV4 dc4 pm4 an4 cd4 ct4), sl4⟩) (c4 : PySem.W.codeIn K cd4 "op_number" = true) (k4 : PySem.W.keepIn K (.ref f4) = true)
    {od5 an5 : Option Addr} {sl5 : Array (Option Value)} {oc5 kV5 dc5 pm5 cd5 ct5 : Value}
    (a5 : PySem.W.nsIn K mainGlobals "_law_bag" = some (some (.ref f5))) (l5 : K.lookup f5 = some ⟨oc5, od5, .func (PySem.W.fnOf "_law_bag" "_law_bag" (defArgs s_bag) (defBody s_bag) (defScope s_bag) .none kV5 dc5 pm5 an5 cd5 ct5), sl5⟩) (c5 : PySem.W.codeIn K cd5 "_law_bag" = true) (k5 : PySem.W.keepIn K (.ref f5) = true)
    {od6 an6 : Option Addr} {sl6 : Array (Option Value)} {oc6 kV6 dc6 pm6 cd6 ct6 : Value}
    (a6 : PySem.W.nsIn K mainGlobals "_law_take" = some (some (.ref f6))) (l6 : K.lookup f6 = some ⟨oc6, od6, .func (PySem.W.fnOf "_law_take" "_law_take" (defArgs s_take) (defBody s_take) (defScope s_take) .none kV6 dc6 pm6 an6 cd6 ct6), sl6⟩) (c6 : PySem.W.codeIn K cd6 "_law_take" = true) (k6 : PySem.W.keepIn K (.ref f6) = true)
    {od7 an7 : Option Addr} {sl7 : Array (Option Value)} {oc7 kV7 dc7 pm7 cd7 ct7 : Value}
    (a7 : PySem.W.nsIn K mainGlobals "_law_op" = some (some (.ref f7))) (l7 : K.lookup f7 = some ⟨oc7, od7, .func (PySem.W.fnOf "_law_op" "_law_op" (defArgs s_lo) (defBody s_lo) (defScope s_lo) .none kV7 dc7 pm7 an7 cd7 ct7), sl7⟩) (c7 : PySem.W.codeIn K cd7 "_law_op" = true) (k7 : PySem.W.keepIn K (.ref f7) = true)
    {od8 an8 : Option Addr} {sl8 : Array (Option Value)} {oc8 kV8 dc8 pm8 cd8 ct8 : Value}
    (a8 : PySem.W.nsIn K mainGlobals "_law_reckoned" = some (some (.ref f8))) (l8 : K.lookup f8 = some ⟨oc8, od8, .func (PySem.W.fnOf "_law_reckoned" "_law_reckoned" (defArgs s_lr) (defBody s_lr) (defScope s_lr) .none kV8 dc8 pm8 an8 cd8 ct8), sl8⟩) (c8 : PySem.W.codeIn K cd8 "_law_reckoned" = true) (k8 : PySem.W.keepIn K (.ref f8) = true)
    {od9 an9 : Option Addr} {sl9 : Array (Option Value)} {oc9 kV9 dc9 pm9 cd9 ct9 : Value}
    (a9 : PySem.W.nsIn K mainGlobals "_law_entered" = some (some (.ref f9))) (l9 : K.lookup f9 = some ⟨oc9, od9, .func (PySem.W.fnOf "_law_entered" "_law_entered" (defArgs s_le) (defBody s_le) (defScope s_le) .none kV9 dc9 pm9 an9 cd9 ct9), sl9⟩) (c9 : PySem.W.codeIn K cd9 "_law_entered" = true) (k9 : PySem.W.keepIn K (.ref f9) = true)
    {od10 an10 : Option Addr} {sl10 : Array (Option Value)} {oc10 kV10 dc10 pm10 cd10 ct10 : Value}
    (a10 : PySem.W.nsIn K mainGlobals "_law_is_let" = some (some (.ref f10))) (l10 : K.lookup f10 = some ⟨oc10, od10, .func (PySem.W.fnOf "_law_is_let" "_law_is_let" (defArgs s_il) (defBody s_il) (defScope s_il) .none kV10 dc10 pm10 an10 cd10 ct10), sl10⟩) (c10 : PySem.W.codeIn K cd10 "_law_is_let" = true) (k10 : PySem.W.keepIn K (.ref f10) = true)
    {od11 an11 : Option Addr} {sl11 : Array (Option Value)} {oc11 kV11 dc11 pm11 cd11 ct11 : Value}
    (a11 : PySem.W.nsIn K mainGlobals "_law_gone" = some (some (.ref f11))) (l11 : K.lookup f11 = some ⟨oc11, od11, .func (PySem.W.fnOf "_law_gone" "_law_gone" (defArgs s_lg) (defBody s_lg) (defScope s_lg) .none kV11 dc11 pm11 an11 cd11 ct11), sl11⟩) (c11 : PySem.W.codeIn K cd11 "_law_gone" = true) (k11 : PySem.W.keepIn K (.ref f11) = true)
    {od12 an12 : Option Addr} {sl12 : Array (Option Value)} {oc12 kV12 dc12 pm12 cd12 ct12 : Value}
    (a12 : PySem.W.nsIn K mainGlobals "_law_gone_one" = some (some (.ref f12))) (l12 : K.lookup f12 = some ⟨oc12, od12, .func (PySem.W.fnOf "_law_gone_one" "_law_gone_one" (defArgs s_l1) (defBody s_l1) (defScope s_l1) .none kV12 dc12 pm12 an12 cd12 ct12), sl12⟩) (c12 : PySem.W.codeIn K cd12 "_law_gone_one" = true) (k12 : PySem.W.keepIn K (.ref f12) = true)
    {od13 an13 : Option Addr} {sl13 : Array (Option Value)} {oc13 kV13 dc13 pm13 cd13 ct13 : Value}
    (a13 : PySem.W.nsIn K mainGlobals "_law_meant" = some (some (.ref f13))) (l13 : K.lookup f13 = some ⟨oc13, od13, .func (PySem.W.fnOf "_law_meant" "_law_meant" (defArgs s_lm) (defBody s_lm) (defScope s_lm) .none kV13 dc13 pm13 an13 cd13 ct13), sl13⟩) (c13 : PySem.W.codeIn K cd13 "_law_meant" = true) (k13 : PySem.W.keepIn K (.ref f13) = true)
    {od14 an14 : Option Addr} {sl14 : Array (Option Value)} {oc14 kV14 dc14 pm14 cd14 ct14 : Value}
    (a14 : PySem.W.nsIn K mainGlobals "_law_last" = some (some (.ref f14))) (l14 : K.lookup f14 = some ⟨oc14, od14, .func (PySem.W.fnOf "_law_last" "_law_last" (defArgs s_la) (defBody s_la) (defScope s_la) .none kV14 dc14 pm14 an14 cd14 ct14), sl14⟩) (c14 : PySem.W.codeIn K cd14 "_law_last" = true) (k14 : PySem.W.keepIn K (.ref f14) = true)
    {od15 an15 : Option Addr} {sl15 : Array (Option Value)} {oc15 kV15 dc15 pm15 cd15 ct15 : Value}
    (a15 : PySem.W.nsIn K mainGlobals "_law_calling" = some (some (.ref f15))) (l15 : K.lookup f15 = some ⟨oc15, od15, .func (PySem.W.fnOf "_law_calling" "_law_calling" (defArgs s_ca) (defBody s_ca) (defScope s_ca) .none kV15 dc15 pm15 an15 cd15 ct15), sl15⟩) (c15 : PySem.W.codeIn K cd15 "_law_calling" = true) (k15 : PySem.W.keepIn K (.ref f15) = true)
    {od16 an16 : Option Addr} {sl16 : Array (Option Value)} {oc16 kV16 dc16 pm16 cd16 ct16 : Value}
    (a16 : PySem.W.nsIn K mainGlobals "_law_chain" = some (some (.ref f16))) (l16 : K.lookup f16 = some ⟨oc16, od16, .func (PySem.W.fnOf "_law_chain" "_law_chain" (defArgs s_ch) (defBody s_ch) (defScope s_ch) .none kV16 dc16 pm16 an16 cd16 ct16), sl16⟩) (c16 : PySem.W.codeIn K cd16 "_law_chain" = true) (k16 : PySem.W.keepIn K (.ref f16) = true)
    {od17 an17 : Option Addr} {sl17 : Array (Option Value)} {oc17 kV17 dc17 pm17 cd17 ct17 : Value}
    (a17 : PySem.W.nsIn K mainGlobals "_law_deepest" = some (some (.ref f17))) (l17 : K.lookup f17 = some ⟨oc17, od17, .func (PySem.W.fnOf "_law_deepest" "_law_deepest" (defArgs s_dp) (defBody s_dp) (defScope s_dp) .none kV17 dc17 pm17 an17 cd17 ct17), sl17⟩) (c17 : PySem.W.codeIn K cd17 "_law_deepest" = true) (k17 : PySem.W.keepIn K (.ref f17) = true)
    {od18 an18 : Option Addr} {sl18 : Array (Option Value)} {oc18 kV18 dc18 pm18 cd18 ct18 : Value}
    (a18 : PySem.W.nsIn K mainGlobals "_law_begun_anew" = some (some (.ref f18))) (l18 : K.lookup f18 = some ⟨oc18, od18, .func (PySem.W.fnOf "_law_begun_anew" "_law_begun_anew" (defArgs s_an) (defBody s_an) (defScope s_an) .none kV18 dc18 pm18 an18 cd18 ct18), sl18⟩) (c18 : PySem.W.codeIn K cd18 "_law_begun_anew" = true) (k18 : PySem.W.keepIn K (.ref f18) = true)
    {od19 an19 : Option Addr} {sl19 : Array (Option Value)} {oc19 kV19 dc19 pm19 cd19 ct19 : Value}
    (a19 : PySem.W.nsIn K mainGlobals "_law_right" = some (some (.ref f19))) (l19 : K.lookup f19 = some ⟨oc19, od19, .func (PySem.W.fnOf "_law_right" "_law_right" (defArgs s_ri) (defBody s_ri) (defScope s_ri) .none kV19 dc19 pm19 an19 cd19 ct19), sl19⟩) (c19 : PySem.W.codeIn K cd19 "_law_right" = true) (k19 : PySem.W.keepIn K (.ref f19) = true)
    {od20 an20 : Option Addr} {sl20 : Array (Option Value)} {oc20 kV20 dc20 pm20 cd20 ct20 : Value}
    (a20 : PySem.W.nsIn K mainGlobals "law" = some (some (.ref f20))) (l20 : K.lookup f20 = some ⟨oc20, od20, .func (PySem.W.fnOf "law" "law" (defArgs s_law) (defBody s_law) (defScope s_law) .none kV20 dc20 pm20 an20 cd20 ct20), sl20⟩) (c20 : PySem.W.codeIn K cd20 "law" = true) (k20 : PySem.W.keepIn K (.ref f20) = true)
    {wod1 wan1 : Option Addr} {wsl1 : Array (Option Value)} {woc1 wkV1 wdc1 wpm1 wcd1 wct1 : Value}
    (wa1 : PySem.W.findIn K (.ref CT) "__init__" = some (some (.ref e1))) (wl1 : K.lookup e1 = some ⟨woc1, wod1, .func (PySem.W.fnOf "__init__" "Telling.__init__" (defArgs s_in) (defBody s_in) (defScope s_in) .none wkV1 wdc1 wpm1 wan1 wcd1 wct1), wsl1⟩) (wc1 : PySem.W.codeIn K wcd1 "Telling.__init__" = true) (wk1 : PySem.W.keepIn K (.ref e1) = true) (wf1 : PySem.W.isFn K (.ref e1) = true)
    {wod2 wan2 : Option Addr} {wsl2 : Array (Option Value)} {woc2 wkV2 wdc2 wpm2 wcd2 wct2 : Value}
    (wa2 : PySem.W.findIn K (.ref CT) "end_of" = some (some (.ref e2))) (wl2 : K.lookup e2 = some ⟨woc2, wod2, .func (PySem.W.fnOf "end_of" "Telling.end_of" (defArgs s_eo) (defBody s_eo) (defScope s_eo) .none wkV2 wdc2 wpm2 wan2 wcd2 wct2), wsl2⟩) (wc2 : PySem.W.codeIn K wcd2 "Telling.end_of" = true) (wk2 : PySem.W.keepIn K (.ref e2) = true) (wf2 : PySem.W.isFn K (.ref e2) = true)
    {wod3 wan3 : Option Addr} {wsl3 : Array (Option Value)} {woc3 wkV3 wdc3 wpm3 wcd3 wct3 : Value}
    (wa3 : PySem.W.findIn K (.ref CT) "given_back" = some (some (.ref e3))) (wl3 : K.lookup e3 = some ⟨woc3, wod3, .func (PySem.W.fnOf "given_back" "Telling.given_back" (defArgs s_gb) (defBody s_gb) (defScope s_gb) .none wkV3 wdc3 wpm3 wan3 wcd3 wct3), wsl3⟩) (wc3 : PySem.W.codeIn K wcd3 "Telling.given_back" = true) (wk3 : PySem.W.keepIn K (.ref e3) = true) (wf3 : PySem.W.isFn K (.ref e3) = true)
    {wod4 wan4 : Option Addr} {wsl4 : Array (Option Value)} {woc4 wkV4 wdc4 wpm4 wcd4 wct4 : Value}
    (wa4 : PySem.W.findIn K (.ref CT) "go_through" = some (some (.ref e4))) (wl4 : K.lookup e4 = some ⟨woc4, wod4, .func (PySem.W.fnOf "go_through" "Telling.go_through" (defArgs s_gt) (defBody s_gt) (defScope s_gt) .none wkV4 wdc4 wpm4 wan4 wcd4 wct4), wsl4⟩) (wc4 : PySem.W.codeIn K wcd4 "Telling.go_through" = true) (wk4 : PySem.W.keepIn K (.ref e4) = true) (wf4 : PySem.W.isFn K (.ref e4) = true)
    {wod5 wan5 : Option Addr} {wsl5 : Array (Option Value)} {woc5 wkV5 wdc5 wpm5 wcd5 wct5 : Value}
    (wa5 : PySem.W.findIn K (.ref CT) "go_through_one" = some (some (.ref e5))) (wl5 : K.lookup e5 = some ⟨woc5, wod5, .func (PySem.W.fnOf "go_through_one" "Telling.go_through_one" (defArgs s_g1) (defBody s_g1) (defScope s_g1) .none wkV5 wdc5 wpm5 wan5 wcd5 wct5), wsl5⟩) (wc5 : PySem.W.codeIn K wcd5 "Telling.go_through_one" = true) (wk5 : PySem.W.keepIn K (.ref e5) = true) (wf5 : PySem.W.isFn K (.ref e5) = true)
    {wod6 wan6 : Option Addr} {wsl6 : Array (Option Value)} {woc6 wkV6 wdc6 wpm6 wcd6 wct6 : Value}
    (wa6 : PySem.W.findIn K (.ref CT) "go_through_try" = some (some (.ref e6))) (wl6 : K.lookup e6 = some ⟨woc6, wod6, .func (PySem.W.fnOf "go_through_try" "Telling.go_through_try" (defArgs s_ty) (defBody s_ty) (defScope s_ty) .none wkV6 wdc6 wpm6 wan6 wcd6 wct6), wsl6⟩) (wc6 : PySem.W.codeIn K wcd6 "Telling.go_through_try" = true) (wk6 : PySem.W.keepIn K (.ref e6) = true) (wf6 : PySem.W.isFn K (.ref e6) = true)
    {wod7 wan7 : Option Addr} {wsl7 : Array (Option Value)} {woc7 wkV7 wdc7 wpm7 wcd7 wct7 : Value}
    (wa7 : PySem.W.findIn K (.ref CT) "go_through_while" = some (some (.ref e7))) (wl7 : K.lookup e7 = some ⟨woc7, wod7, .func (PySem.W.fnOf "go_through_while" "Telling.go_through_while" (defArgs s_wh) (defBody s_wh) (defScope s_wh) .none wkV7 wdc7 wpm7 wan7 wcd7 wct7), wsl7⟩) (wc7 : PySem.W.codeIn K wcd7 "Telling.go_through_while" = true) (wk7 : PySem.W.keepIn K (.ref e7) = true) (wf7 : PySem.W.isFn K (.ref e7) = true)
    {wod8 wan8 : Option Addr} {wsl8 : Array (Option Value)} {woc8 wkV8 wdc8 wpm8 wcd8 wct8 : Value}
    (wa8 : PySem.W.findIn K (.ref CT) "count_one" = some (some (.ref e8))) (wl8 : K.lookup e8 = some ⟨woc8, wod8, .func (PySem.W.fnOf "count_one" "Telling.count_one" (defArgs s_co) (defBody s_co) (defScope s_co) .none wkV8 wdc8 wpm8 wan8 wcd8 wct8), wsl8⟩) (wc8 : PySem.W.codeIn K wcd8 "Telling.count_one" = true) (wk8 : PySem.W.keepIn K (.ref e8) = true) (wf8 : PySem.W.isFn K (.ref e8) = true)
    {wod9 wan9 : Option Addr} {wsl9 : Array (Option Value)} {woc9 wkV9 wdc9 wpm9 wcd9 wct9 : Value}
    (wa9 : PySem.W.findIn K (.ref CT) "worth_of" = some (some (.ref e9))) (wl9 : K.lookup e9 = some ⟨woc9, wod9, .func (PySem.W.fnOf "worth_of" "Telling.worth_of" (defArgs s_wo) (defBody s_wo) (defScope s_wo) .none wkV9 wdc9 wpm9 wan9 wcd9 wct9), wsl9⟩) (wc9 : PySem.W.codeIn K wcd9 "Telling.worth_of" = true) (wk9 : PySem.W.keepIn K (.ref e9) = true) (wf9 : PySem.W.isFn K (.ref e9) = true)
    {wod10 wan10 : Option Addr} {wsl10 : Array (Option Value)} {woc10 wkV10 wdc10 wpm10 wcd10 wct10 : Value}
    (wa10 : PySem.W.findIn K (.ref CT) "called" = some (some (.ref e10))) (wl10 : K.lookup e10 = some ⟨woc10, wod10, .func (PySem.W.fnOf "called" "Telling.called" (defArgs s_cd) (defBody s_cd) (defScope s_cd) .none wkV10 wdc10 wpm10 wan10 wcd10 wct10), wsl10⟩) (wc10 : PySem.W.codeIn K wcd10 "Telling.called" = true) (wk10 : PySem.W.keepIn K (.ref e10) = true) (wf10 : PySem.W.isFn K (.ref e10) = true)
    {t1 : Tok} (m1 : PySem.W.nsIn K mainGlobals "MOST_WORTH" = some (some (.int 1000000000000 t1)))
    {t2 : Tok} (m2 : PySem.W.nsIn K mainGlobals "OVER_BY_NOUGHT" = some (some (.int (-1) t2)))
    {t3 : Tok} (m3 : PySem.W.nsIn K mainGlobals "NO_WORTH" = some (some (.int (-2) t3)))
    {t4 : Tok} (m4 : PySem.W.nsIn K mainGlobals "NOT_SET" = some (some (.int (-3) t4)))
    {t5 : Tok} (m5 : PySem.W.nsIn K mainGlobals "TOO_DEEP" = some (some (.int (-4) t5)))
    {t6 : Tok} (m6 : PySem.W.nsIn K mainGlobals "MOST_BEGUN" = some (some (.int 12 t6)))
    (z1 : PySem.W.nsIn K mainGlobals "isinstance" = some none)
    (z2 : PySem.W.nsIn K mainGlobals "len" = some none)
    (z3 : PySem.W.nsIn K mainGlobals "all" = some none)
    (z4 : PySem.W.nsIn K mainGlobals "enumerate" = some none)
    (z5 : PySem.W.nsIn K mainGlobals "set" = some none)
    (z6 : PySem.W.nsIn K mainGlobals "int" = some none)
    (z7 : PySem.W.nsIn K mainGlobals "bool" = some none)
    (z8 : PySem.W.nsIn K mainGlobals "str" = some none)
    (z9 : PySem.W.nsIn K mainGlobals "tuple" = some none)
    (z10 : PySem.W.nsIn K mainGlobals "list" = some none)
    (z11 : PySem.W.nsIn K mainGlobals "range" = some none)
    (z12 : PySem.W.nsIn K mainGlobals "abs" = some none)
    (z13 : PySem.W.nsIn K mainGlobals "max" = some none)
    (z14 : PySem.W.nsIn K mainGlobals "min" = some none)
    (z15 : PySem.W.nsIn K mainGlobals "repr" = some none)
    (z16 : PySem.W.nsIn K mainGlobals "zip" = some none)
    (z17 : PySem.W.nsIn K mainGlobals "Exception" = some none)
    : ∃ fd : FuncData, (∀ (s : Shared) (v : Value), BindsTo s fd ⟨[v], []⟩ [("_law_script", v)]) ∧ ∀ base : Heap, K.In base → base.Ns mainGlobals mg → FnG l.prog w K mg base 203 fa fd ["_law_script"] (spLaw K) := by
  have e := hfa.symm.trans (PySem.W.mg_of X G a20)
  cases e
  have D1 := def_mk (st := s_is_whole) (ps := ["thing"]) X G a1 l1 c1 k1 fun _ _ _ _ _ _ us hl => match us, hl with | [_], _ => rfl
  have D2 := def_mk (st := s_is_worth) (ps := ["thing"]) X G a2 l2 c2 k2 fun _ _ _ _ _ _ us hl => match us, hl with | [_], _ => rfl
  have D3 := def_mk (st := s_oo) (ps := ["op", "one", "other"]) X G a3 l3 c3 k3 fun _ _ _ _ _ _ us hl => match us, hl with | [_, _, _], _ => rfl
  have D4 := def_mk (st := s_on) (ps := ["op", "one", "other"]) X G a4 l4 c4 k4 fun _ _ _ _ _ _ us hl => match us, hl with | [_, _, _], _ => rfl
  have D5 := def_mk (st := s_bag) (ps := ["_law_script", "_law_at"]) X G a5 l5 c5 k5 fun _ _ _ _ _ _ us hl => match us, hl with | [_, _], _ => rfl
  have D6 := def_mk (st := s_take) (ps := ["_law_bag_here", "_law_many"]) X G a6 l6 c6 k6 fun _ _ _ _ _ _ us hl => match us, hl with | [_, _], _ => rfl
  have D7 := def_mk (st := s_lo) (ps := ["_law_op_here", "_law_one", "_law_other"]) X G a7 l7 c7 k7 fun _ _ _ _ _ _ us hl => match us, hl with | [_, _, _], _ => rfl
  have D8 := def_mk (st := s_lr) (ps := ["_law_run", "_law_value", "_law_names"]) X G a8 l8 c8 k8 fun _ _ _ _ _ _ us hl => match us, hl with | [_, _, _], _ => rfl
  have D9 := def_mk (st := s_le) (ps := ["_law_run", "_law_name", "_law_numbers"]) X G a9 l9 c9 k9 fun _ _ _ _ _ _ us hl => match us, hl with | [_, _, _], _ => rfl
  have D10 := def_mk (st := s_il) (ps := ["_law_run"]) X G a10 l10 c10 k10 fun _ _ _ _ _ _ us hl => match us, hl with | [_], _ => rfl
  have D11 := def_mk (st := s_lg) (ps := ["_law_run", "_law_sayings", "_law_names"]) X G a11 l11 c11 k11 fun _ _ _ _ _ _ us hl => match us, hl with | [_, _, _], _ => rfl
  have D12 := def_mk (st := s_l1) (ps := ["_law_run", "_law_saying", "_law_names"]) X G a12 l12 c12 k12 fun _ _ _ _ _ _ us hl => match us, hl with | [_, _, _], _ => rfl
  have D13 := def_mk (st := s_lm) (ps := ["_law_tree", "_law_part", "_law_numbers", "_law_most"]) X G a13 l13 c13 k13 fun _ _ _ _ _ _ us hl => match us, hl with | [_, _, _, _], _ => rfl
  have D14 := def_mk (st := s_la) (ps := ["_law_bag_here", "_law_names"]) X G a14 l14 c14 k14 fun _ _ _ _ _ _ us hl => match us, hl with | [_, _], _ => rfl
  have D15 := def_mk (st := s_ca) (ps := ["_law_bag_here", "_law_name"]) X G a15 l15 c15 k15 fun _ _ _ _ _ _ us hl => match us, hl with | [_, _], _ => rfl
  have D16 := def_mk (st := s_ch) (ps := ["_law_bag_here"]) X G a16 l16 c16 k16 fun _ _ _ _ _ _ us hl => match us, hl with | [_], _ => rfl
  have D17 := def_mk (st := s_dp) (ps := ["_law_bag_here"]) X G a17 l17 c17 k17 fun _ _ _ _ _ _ us hl => match us, hl with | [_], _ => rfl
  have D18 := def_mk (st := s_an) (ps := ["_law_bag_here"]) X G a18 l18 c18 k18 fun _ _ _ _ _ _ us hl => match us, hl with | [_], _ => rfl
  have D19 := def_mk (st := s_ri) (ps := ["_law_tree", "_law_part", "_law_numbers"]) X G a19 l19 c19 k19 fun _ _ _ _ _ _ us hl => match us, hl with | [_, _, _], _ => rfl
  have D20 := def_mk (st := s_law) (ps := ["_law_script"]) X G a20 l20 c20 k20 fun _ _ _ _ _ _ us hl => match us, hl with | [_], _ => rfl
  have B : Blt mg := ⟨PySem.W.mg_none_of X G z1, PySem.W.mg_none_of X G z2, PySem.W.mg_none_of X G z3, PySem.W.mg_none_of X G z4, PySem.W.mg_none_of X G z5, PySem.W.mg_none_of X G z6, PySem.W.mg_none_of X G z7, PySem.W.mg_none_of X G z8, PySem.W.mg_none_of X G z9, PySem.W.mg_none_of X G z10, PySem.W.mg_none_of X G z11⟩
  have B2 : Blt2 mg := ⟨PySem.W.mg_none_of X G z12, PySem.W.mg_none_of X G z13, PySem.W.mg_none_of X G z14, PySem.W.mg_none_of X G z15⟩
  have zz : mg "zip" = none := PySem.W.mg_none_of X G z16
  have M1 := PySem.W.mg_of X G m1
  have M2 := PySem.W.mg_of X G m2
  have M3 := PySem.W.mg_of X G m3
  have M4 := PySem.W.mg_of X G m4
  have M5 := PySem.W.mg_of X G m5
  have M6 := PySem.W.mg_of X G m6
  have FI := fun_mk (st := s_fti) lI cI kI
  have TT : ExC K CF := ⟨ex_tail, ⟨nm, q, Nn, bs, sn, sub, ab, col, dd, mm0, mm1, mm2, mm3, mm5, xL⟩, sa, eC, tC, kC⟩
  have T : FtC K mg CF fI _ := ⟨TT, FI, FI.binds fun _ _ _ _ _ _ us hl => match us, hl with | [_, _], _ => rfl, PySem.W.mg_of X G aC, aI, tI, nb, vC, PySem.W.mg_none_of X G z17⟩
  have XT : XfC K CF := ⟨ga, gg, eC, hC⟩
  have te := exm_self eC iC tC sC
  have tb := exm_other (S := CF) (S2 := CB) eC iC tC uBF
  have tbb := exm_self uB iB tB sB
  have TB : TbC K mg CB := ⟨PySem.W.mg_of X G aB, qB, kB, uB, tB⟩
  have C : TlC K CT := ⟨⟨pT, hT, oT, sT⟩, nT, nL, nS⟩
  have F1 := fun_mk (st := s_in) wl1 wc1 wk1
  have b1 := F1.binds (ps := ["self", "tree", "most"]) fun _ _ _ _ _ _ us hl => match us, hl with | [_, _, _], _ => rfl
  have W1 : TmC K CT "__init__" "Telling.__init__" s_in ["self", "tree", "most"] e1 _ := ⟨⟨wa1, wf1, wk1⟩, F1, b1⟩
  have F2 := fun_mk (st := s_eo) wl2 wc2 wk2
  have b2 := F2.binds (ps := ["self", "part", "numbers"]) fun _ _ _ _ _ _ us hl => match us, hl with | [_, _, _], _ => rfl
  have W2 : TmC K CT "end_of" "Telling.end_of" s_eo ["self", "part", "numbers"] e2 _ := ⟨⟨wa2, wf2, wk2⟩, F2, b2⟩
  have F3 := fun_mk (st := s_gb) wl3 wc3 wk3
  have b3 := F3.binds (ps := ["self", "part", "numbers", "deep"]) fun _ _ _ _ _ _ us hl => match us, hl with | [_, _, _, _], _ => rfl
  have W3 : TmC K CT "given_back" "Telling.given_back" s_gb ["self", "part", "numbers", "deep"] e3 _ := ⟨⟨wa3, wf3, wk3⟩, F3, b3⟩
  have F4 := fun_mk (st := s_gt) wl4 wc4 wk4
  have b4 := F4.binds (ps := ["self", "sayings", "known", "deep"]) fun _ _ _ _ _ _ us hl => match us, hl with | [_, _, _, _], _ => rfl
  have W4 : TmC K CT "go_through" "Telling.go_through" s_gt ["self", "sayings", "known", "deep"] e4 _ := ⟨⟨wa4, wf4, wk4⟩, F4, b4⟩
  have F5 := fun_mk (st := s_g1) wl5 wc5 wk5
  have b5 := F5.binds (ps := ["self", "saying", "known", "deep"]) fun _ _ _ _ _ _ us hl => match us, hl with | [_, _, _, _], _ => rfl
  have W5 : TmC K CT "go_through_one" "Telling.go_through_one" s_g1 ["self", "saying", "known", "deep"] e5 _ := ⟨⟨wa5, wf5, wk5⟩, F5, b5⟩
  have F6 := fun_mk (st := s_ty) wl6 wc6 wk6
  have b6 := F6.binds (ps := ["self", "saying", "known", "deep"]) fun _ _ _ _ _ _ us hl => match us, hl with | [_, _, _, _], _ => rfl
  have W6 : TmC K CT "go_through_try" "Telling.go_through_try" s_ty ["self", "saying", "known", "deep"] e6 _ := ⟨⟨wa6, wf6, wk6⟩, F6, b6⟩
  have F7 := fun_mk (st := s_wh) wl7 wc7 wk7
  have b7 := F7.binds (ps := ["self", "saying", "known", "deep"]) fun _ _ _ _ _ _ us hl => match us, hl with | [_, _, _, _], _ => rfl
  have W7 : TmC K CT "go_through_while" "Telling.go_through_while" s_wh ["self", "saying", "known", "deep"] e7 _ := ⟨⟨wa7, wf7, wk7⟩, F7, b7⟩
  have F8 := fun_mk (st := s_co) wl8 wc8 wk8
  have b8 := F8.binds (ps := ["self"]) fun _ _ _ _ _ _ us hl => match us, hl with | [_], _ => rfl
  have W8 : TmC K CT "count_one" "Telling.count_one" s_co ["self"] e8 _ := ⟨⟨wa8, wf8, wk8⟩, F8, b8⟩
  have F9 := fun_mk (st := s_wo) wl9 wc9 wk9
  have b9 := F9.binds (ps := ["self", "value", "known", "deep"]) fun _ _ _ _ _ _ us hl => match us, hl with | [_, _, _, _], _ => rfl
  have W9 : TmC K CT "worth_of" "Telling.worth_of" s_wo ["self", "value", "known", "deep"] e9 _ := ⟨⟨wa9, wf9, wk9⟩, F9, b9⟩
  have F10 := fun_mk (st := s_cd) wl10 wc10 wk10
  have b10 := F10.binds (ps := ["self", "part", "numbers", "deep"]) fun _ _ _ _ _ _ us hl => match us, hl with | [_, _, _, _], _ => rfl
  have W10 : TmC K CT "called" "Telling.called" s_cd ["self", "part", "numbers", "deep"] e10 _ := ⟨⟨wa10, wf10, wk10⟩, F10, b10⟩
  have MK : Mk K CT e1 := ⟨mT, wa1, wf1, kT⟩
  have FM : FunD K "meant" "meant" (defArgs s_me) (defBody s_me) (defScope s_me) [.ref T0] [("most", .int 60)] fm _ := ⟨⟨ocM, odM, .ref Td, .ref Dk, dcM, pmM, anM, cdM, ctM, slM, rfl, lM, cM, .inr ⟨(by intro z; cases z), Td, _, [.ref T0], nTd, rfl, lTd, rfl, .cons rfl .nil⟩, .inr ⟨Dk, rfl, fun q hq => by
    rw [List.mem_singleton.mp hq]
    exact ⟨.int 60 tM, lDk, ⟨tM, rfl⟩⟩⟩⟩, kM⟩
  obtain ⟨bd, hd, hb⟩ := FM.binds (ps := ["tree", "part", "numbers", "most"]) 3 1 (by intro z; cases z) rfl (fun T D doc pm an cdv ct us its ks hu hi hk => match us, its, ks, hu, hi, hk with | [_, _, _], [_], [_], _, _, _ => ⟨_, rfl, _, _, _, _, _, _, rfl, rfl, rfl⟩) (by intro z; cases z)
  obtain ⟨bd2, hd2, hb2⟩ := FM.binds (ps := ["tree", "part", "numbers", "most"]) 2 0 (by intro z; cases z) rfl (fun T D doc pm an cdv ct us its ks hu hi hk => match us, its, ks, hu, hi, hk with | [_, _], [_], [_], _, _, _ => ⟨_, rfl, _, _, _, _, _, _, rfl, rfl, rfl⟩) (by intro z; cases z)
  have h0 : ∀ H, Dd K H (.ref T0) (.tuple []) := fun H => .tup (word_tup (its := []) lT0 (Nat.zero_le _) .nil H).1 (word_tup (its := []) lT0 (Nat.zero_le _) .nil H).2 .nil
  obtain ⟨itK, mvK, bK⟩ := FM.kbinds (ps := ["tree", "part", "numbers", "most"]) 3 ["most"] [] (fun vs ds mz zs => vs ++ zs) (by intro z; cases z) (by intro z; cases z) (fun q hq => nomatch hq) (fun r1 r2 r3 r4 => r1.append r4) fun T D' doc pm an cdv ct us its mv ws h1 h2 h3 h4 => match us, its, mv, ws, h1, h2, h3, h4 with | [_, _, _], [_], [], [_], _, _, _, _ => ⟨_, rfl, rfl⟩
  refine ⟨PySem.W.fnOf "law" "law" (defArgs s_law) (defBody s_law) (defScope s_law) .none kV20 dc20 pm20 an20 cd20 ct20, fun s v => .of_eq rfl, fun base _ _ => ?_⟩
  have g1 := ok_is_worth (P := l.prog) (w := w) (base := base) D2 D1 B M1
  have g2 := ok_oo D3 D4 D2 g1 M2 M3
  have TA : TmAll K CT e9 e4 e5 e6 e7 e10 e3 e8 _ _ _ _ _ _ _ _ := ⟨W9, W4, W5, W6, W7, W10, W3, W8⟩
  have gb := ok_gbn TA T TB te tb XT C D3 g2 B M4 M6 M5 zz 100 198
  have eo := ok_eo 100 199 (Nat.le_refl _) T TB te tb tbb XT C W2 W3 gb
  have me := ok_me 100 200 (by decide) C FM (PySem.W.mg_of X G aT) F1 b1 MK W2 eo B
  have en := ok_entL (P := l.prog) (w := w) (base := base) D11 D12 D8 D9 D7 D10 B B2 100 199
  have lm := ok_lm 100 200 (Nat.le_refl _) D13 D9 en B
  have gbg := ok_bag (P := l.prog) (w := w) (base := base) D5 B B2
  have gch := ok_ch (P := l.prog) (w := w) (base := base) D16 D6 D15 D14 B B2
  have gdp := ok_dp (P := l.prog) (w := w) (base := base) D17 D6
  have gan := ok_an (P := l.prog) (w := w) (base := base) D18 D6 B
  have gri := ok_ri D19 B B2 D13 lm (PySem.W.mg_of X G aM) kM me hb hd
  exact ok_law D20 B B2 D5 gbg D16 gch D6 D17 gdp D18 gan D19 gri
theorem walkG {l : PySem.W.OpenLaw} {q : Program} {loose : List Str} {XP : (Str → Option Value) → Heap → Prop} {YP : World → Heap → Prop} {d : DefRec} {K : Params → PySem.W.Frag} (hn : l.most = some 63) (hdf : d.params.defaults = [])
    (hY : ∀ (w : World) (h : Heap), YP w h → (K w.params).In h)
    (F : ∀ (w : World) (mg : Str → Option Value) (fa : Addr) (h : Heap), (K w.params).In h → h.Ns mainGlobals mg → mg d.name = some (.ref fa) →
      ∃ fd : FuncData, (∀ (s : Shared) (u : Value), BindsTo s fd ⟨[u], []⟩ [("_law_script", u)]) ∧ ∀ base : Heap, (K w.params).In base → base.Ns mainGlobals mg → FnG l.prog w (K w.params) mg base 203 fa fd ["_law_script"] (spLaw (K w.params))) :
    PySem.W.WalkO q loose XP YP l.row.toRowW d [] (fun f vs => PySem.call f vs) :=
  Att.attach_call hn hdf fun w s₀ s₁ mg mb fa o pm cd doc a vs ns G Y ho hd hcd hmg hobj hints hlen hge => by
    have KX := hY w _ Y
    obtain ⟨fd, hb, hF⟩ := F w mg fa _ KX G.T.g hmg
    exact law_goG KX G.T.g G.T.b G.T.builtins G.T.nolimit hge hobj hints (Nat.le_trans hlen (by decide)) ⟨rfl, by decide, by decide⟩ hF hb fun H hS => ⟨a, ns, rfl, hS, by omega, fun _ => rfl⟩
end Wr

set_option Elab.async false
set_option linter.all false
open PySem PySem.W PyProof.Rows
set_option maxRecDepth 100000 in
set_option maxHeartbeats 0 in
theorem PySem.Challenge.cw_watchedrun_k13_guards_and_calls_of_trees_holds : PySem.Challenge.rw_watchedrun_k13_guards_and_calls_of_trees.Holds := by
  w_on; o_law; k_head; (case hw => w_witness2)
  k_fill
  refine Wr.walkG (l := PySem.Challenge.rw_watchedrun_k13_guards_and_calls_of_trees) rfl rfl (fun w h Y => PySem.W.kIn_of Y) ?F
  case F =>
    intro w mg fa h KX G hmg
    refine' Wr.all_mk KX G hmg ?aC ?xL ?sa ?ga ?gg ?nb ?aI ?tI ?lI ?cI ?kI ?kC ?eC ?tC ?hC ?iC ?sC ?vC ?aT ?pT ?hT ?oT ?sT ?nT ?nL ?nS ?mT ?kT ?aM ?lM ?cM ?kM ?lTd ?lT0 ?lDk ?aB ?qB ?kB ?uB ?tB ?iB ?sB ?uBF ?a1 ?l1 ?c1 ?k1 ?a2 ?l2 ?c2 ?k2 ?a3 ?l3 ?c3 ?k3 ?a4 ?l4 ?c4 ?k4 ?a5 ?l5 ?c5 ?k5 ?a6 ?l6 ?c6 ?k6 ?a7 ?l7 ?c7 ?k7 ?a8 ?l8 ?c8 ?k8 ?a9 ?l9 ?c9 ?k9 ?a10 ?l10 ?c10 ?k10 ?a11 ?l11 ?c11 ?k11 ?a12 ?l12 ?c12 ?k12 ?a13 ?l13 ?c13 ?k13 ?a14 ?l14 ?c14 ?k14 ?a15 ?l15 ?c15 ?k15 ?a16 ?l16 ?c16 ?k16 ?a17 ?l17 ?c17 ?k17 ?a18 ?l18 ?c18 ?k18 ?a19 ?l19 ?c19 ?k19 ?a20 ?l20 ?c20 ?k20 ?wa1 ?wl1 ?wc1 ?wk1 ?wf1 ?wa2 ?wl2 ?wc2 ?wk2 ?wf2 ?wa3 ?wl3 ?wc3 ?wk3 ?wf3 ?wa4 ?wl4 ?wc4 ?wk4 ?wf4 ?wa5 ?wl5 ?wc5 ?wk5 ?wf5 ?wa6 ?wl6 ?wc6 ?wk6 ?wf6 ?wa7 ?wl7 ?wc7 ?wk7 ?wf7 ?wa8 ?wl8 ?wc8 ?wk8 ?wf8 ?wa9 ?wl9 ?wc9 ?wk9 ?wf9 ?wa10 ?wl10 ?wc10 ?wk10 ?wf10 ?m1 ?m2 ?m3 ?m4 ?m5 ?m6 ?z1 ?z2 ?z3 ?z4 ?z5 ?z6 ?z7 ?z8 ?z9 ?z10 ?z11 ?z12 ?z13 ?z14 ?z15 ?z16 ?z17
    (case aC => k_is)
    (case xL => k_is)
    (case sa => k_is)
    (case ga => k_is)
    (case gg => k_is)
    (case nb => k_is)
    (case aI => k_is)
    (case tI => k_is)
    (case lI => k_is)
    (case cI => k_is)
    (case kI => k_is)
    (case kC => k_is)
    (case eC => k_is)
    (case tC => k_is)
    (case hC => k_is)
    (case iC => first | k_is | rfl)
    (case sC => first | k_is | rfl)
    (case vC => k_is)
    (case aT => k_is)
    (case pT => k_is)
    (case hT => k_is)
    (case oT => k_is)
    (case sT => k_is)
    (case nT => k_is)
    (case nL => k_is)
    (case nS => k_is)
    (case mT => k_is)
    (case kT => k_is)
    (case aM => k_is)
    (case lM => k_is)
    (case cM => k_is)
    (case kM => k_is)
    (case lTd => k_is)
    (case lT0 => k_is)
    (case lDk => k_is)
    (case aB => k_is)
    (case qB => k_exc)
    (case kB => k_is)
    (case uB => k_is)
    (case tB => k_is)
    (case iB => first | k_is | rfl)
    (case sB => first | k_is | rfl)
    (case uBF => first | k_is | rfl)
    (case a1 => k_is)
    (case l1 => k_is)
    (case c1 => k_is)
    (case k1 => k_is)
    (case a2 => k_is)
    (case l2 => k_is)
    (case c2 => k_is)
    (case k2 => k_is)
    (case a3 => k_is)
    (case l3 => k_is)
    (case c3 => k_is)
    (case k3 => k_is)
    (case a4 => k_is)
    (case l4 => k_is)
    (case c4 => k_is)
    (case k4 => k_is)
    (case a5 => k_is)
    (case l5 => k_is)
    (case c5 => k_is)
    (case k5 => k_is)
    (case a6 => k_is)
    (case l6 => k_is)
    (case c6 => k_is)
    (case k6 => k_is)
    (case a7 => k_is)
    (case l7 => k_is)
    (case c7 => k_is)
    (case k7 => k_is)
    (case a8 => k_is)
    (case l8 => k_is)
    (case c8 => k_is)
    (case k8 => k_is)
    (case a9 => k_is)
    (case l9 => k_is)
    (case c9 => k_is)
    (case k9 => k_is)
    (case a10 => k_is)
    (case l10 => k_is)
    (case c10 => k_is)
    (case k10 => k_is)
    (case a11 => k_is)
    (case l11 => k_is)
    (case c11 => k_is)
    (case k11 => k_is)
    (case a12 => k_is)
    (case l12 => k_is)
    (case c12 => k_is)
    (case k12 => k_is)
    (case a13 => k_is)
    (case l13 => k_is)
    (case c13 => k_is)
    (case k13 => k_is)
    (case a14 => k_is)
    (case l14 => k_is)
    (case c14 => k_is)
    (case k14 => k_is)
    (case a15 => k_is)
    (case l15 => k_is)
    (case c15 => k_is)
    (case k15 => k_is)
    (case a16 => k_is)
    (case l16 => k_is)
    (case c16 => k_is)
    (case k16 => k_is)
    (case a17 => k_is)
    (case l17 => k_is)
    (case c17 => k_is)
    (case k17 => k_is)
    (case a18 => k_is)
    (case l18 => k_is)
    (case c18 => k_is)
    (case k18 => k_is)
    (case a19 => k_is)
    (case l19 => k_is)
    (case c19 => k_is)
    (case k19 => k_is)
    (case a20 => k_is)
    (case l20 => k_is)
    (case c20 => k_is)
    (case k20 => k_is)
    (case wa1 => k_is)
    (case wl1 => k_is)
    (case wc1 => k_is)
    (case wk1 => k_is)
    (case wf1 => k_is)
    (case wa2 => k_is)
    (case wl2 => k_is)
    (case wc2 => k_is)
    (case wk2 => k_is)
    (case wf2 => k_is)
    (case wa3 => k_is)
    (case wl3 => k_is)
    (case wc3 => k_is)
    (case wk3 => k_is)
    (case wf3 => k_is)
    (case wa4 => k_is)
    (case wl4 => k_is)
    (case wc4 => k_is)
    (case wk4 => k_is)
    (case wf4 => k_is)
    (case wa5 => k_is)
    (case wl5 => k_is)
    (case wc5 => k_is)
    (case wk5 => k_is)
    (case wf5 => k_is)
    (case wa6 => k_is)
    (case wl6 => k_is)
    (case wc6 => k_is)
    (case wk6 => k_is)
    (case wf6 => k_is)
    (case wa7 => k_is)
    (case wl7 => k_is)
    (case wc7 => k_is)
    (case wk7 => k_is)
    (case wf7 => k_is)
    (case wa8 => k_is)
    (case wl8 => k_is)
    (case wc8 => k_is)
    (case wk8 => k_is)
    (case wf8 => k_is)
    (case wa9 => k_is)
    (case wl9 => k_is)
    (case wc9 => k_is)
    (case wk9 => k_is)
    (case wf9 => k_is)
    (case wa10 => k_is)
    (case wl10 => k_is)
    (case wc10 => k_is)
    (case wk10 => k_is)
    (case wf10 => k_is)
    (case m1 => k_is)
    (case m2 => k_is)
    (case m3 => k_is)
    (case m4 => k_is)
    (case m5 => k_is)
    (case m6 => k_is)
    (case z1 => k_is)
    (case z2 => k_is)
    (case z3 => k_is)
    (case z4 => k_is)
    (case z5 => k_is)
    (case z6 => k_is)
    (case z7 => k_is)
    (case z8 => k_is)
    (case z9 => k_is)
    (case z10 => k_is)
    (case z11 => k_is)
    (case z12 => k_is)
    (case z13 => k_is)
    (case z14 => k_is)
    (case z15 => k_is)
    (case z16 => k_is)
    (case z17 => k_is)
