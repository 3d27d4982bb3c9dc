/- Rows of minutes: ways to a form: joined in the order of their starts, sorted, left out, grown and cut span by span, two rows gone through together. No text of the program is read here. -/
import Derived.Test.YtdpgmhjhmccfnaaSMath4
import Derived.Test.YtdpgmhjhmccfnaaHMath3
namespace Sp
theorem formL_congr {a b : List Spn} (h : ∀ m, has a m ↔ has b m) : formL a = formL b :=
  form_unique _ _ (formL_form a) (formL_form b) fun m => by rw [formL_has, formL_has, h]
theorem has_perm {a b : List Spn} (h : a.Perm b) (m : Int) : has a m ↔ has b m := by
  constructor <;> rintro ⟨s, hs, q⟩
  · exact ⟨s, h.mem_iff.1 hs, q⟩
  · exact ⟨s, h.mem_iff.2 hs, q⟩
theorem formL_perm {a b : List Spn} (h : a.Perm b) : formL a = formL b := formL_congr (has_perm h)
theorem has_filter {l : List Spn} {p : Spn → Bool} (hp : ∀ s, s.1 < s.2 → p s = true) (m : Int) : has (l.filter p) m ↔ has l m := by
  constructor
  · rintro ⟨s, hs, q⟩
    exact ⟨s, (List.mem_filter.1 hs).1, q⟩
  · rintro ⟨s, hs, q⟩
    exact ⟨s, List.mem_filter.2 ⟨hs, hp s (by omega)⟩, q⟩
theorem formL_filter (l : List Spn) {p : Spn → Bool} (hp : ∀ s, s.1 < s.2 → p s = true) : formL (l.filter p) = formL l := formL_congr (has_filter hp)
theorem pairW_congr (k : Int) {a b a' b' : List Spn} (h1 : ∀ m, has a m ↔ has a' m) (h2 : ∀ m, has b m ↔ has b' m) : pair (cW k) a b = pair (cW k) a' b' :=
  form_unique _ _ (pair_form _ _ _) (pair_form _ _ _) fun m => by
    rw [pairW_has, pairW_has, show hasB a m = hasB a' m from by rw [Bool.eq_iff_iff, hasB_iff, hasB_iff, h1], show hasB b m = hasB b' m from by rw [Bool.eq_iff_iff, hasB_iff, hasB_iff, h2]]
theorem pairW_forms (k : Int) (a b : List Spn) : pair (cW k) (formL a) (formL b) = pair (cW k) a b := pairW_congr k (formL_has a) (formL_has b)
theorem or_has (a b : List Spn) (m : Int) : has (pair (cW 0) a b) m ↔ has a m ∨ has b m := by
  rw [pairW_has, ← hasB_iff, ← hasB_iff]; unfold cW; cases hasB a m <;> cases hasB b m <;> decide
theorem and_has (a b : List Spn) (m : Int) : has (pair (cW 1) a b) m ↔ has a m ∧ has b m := by
  rw [pairW_has, ← hasB_iff, ← hasB_iff]; unfold cW; cases hasB a m <;> cases hasB b m <;> decide
theorem but_has (a b : List Spn) (m : Int) : has (pair (cW 2) a b) m ↔ has a m ∧ ¬ has b m := by
  rw [pairW_has, ← hasB_iff, ← hasB_iff]; unfold cW; cases hasB a m <;> cases hasB b m <;> decide
theorem union_form (a b : List Spn) : pair (cW 0) a b = formL (a ++ b) :=
  form_unique _ _ (pair_form _ _ _) (formL_form _) fun m => by rw [or_has, formL_has, has_append]
theorem pair_of {k : Int} {a b r : List Spn} (hf : form r) (h : ∀ m, has r m ↔ has (pair (cW k) a b) m) : r = pair (cW k) a b := form_unique _ _ hf (pair_form _ _ _) h
theorem formL_of {l r : List Spn} (hf : form r) (h : ∀ m, has r m ↔ has l m) : r = formL l := form_unique _ _ hf (formL_form _) fun m => by rw [h, formL_has]
/-- Spans joined one by one, their starts in order. -/
theorem fold_jn : ∀ (l q : List Spn), form q → (∀ t ∈ q, ∀ s ∈ l, t.1 ≤ s.1) → l.Pairwise (fun a b => a.1 ≤ b.1) → (∀ s ∈ l, s.1 < s.2) →
    form (l.foldl jn q) ∧ (∀ x, has (l.foldl jn q) x ↔ has q x ∨ has l x) ∧ (l.foldl jn q).length ≤ q.length + l.length
  | [], q, hq, _, _, _ => ⟨hq, fun x => by simp [has_nil], by simp⟩
  | s :: r, q, hq, hs, hp, h0 => by
    have J := jn_is hq (fun t ht => hs t ht s List.mem_cons_self) (h0 s List.mem_cons_self)
    have hp' := List.pairwise_cons.1 hp
    obtain ⟨k1, k2, k3⟩ := fold_jn r (jn q s) J.form (fun t ht u hu => Int.le_trans (J.starts t ht) (hp'.1 u hu)) hp'.2 (fun u hu => h0 u (List.mem_cons_of_mem _ hu))
    refine ⟨k1, fun x => ?_, ?_⟩
    · rw [List.foldl_cons, k2, J.has, has_cons, or_assoc]
    · have := J.len
      rw [List.foldl_cons, List.length_cons]; omega
theorem fold_is {l : List Spn} (hp : l.Pairwise fun a b => a.1 ≤ b.1) (h0 : ∀ s ∈ l, s.1 < s.2) : l.foldl jn [] = formL l := by
  obtain ⟨k1, k2, _⟩ := fold_jn l [] trivial (fun t ht => by cases ht) hp h0
  exact formL_of k1 fun x => by rw [k2]; simp [has_nil]
theorem fold_take {l : List Spn} {k : Nat} {s : Spn} (h : l[k]? = some s) (q : List Spn) : (l.take (k + 1)).foldl jn q = jn ((l.take k).foldl jn q) s := by
  rw [List.take_add_one, h]; simp
/-- A row joined from the first k spans of it. -/
theorem fold_mid {l : List Spn} (hp : l.Pairwise fun a b => a.1 ≤ b.1) (h0 : ∀ s ∈ l, s.1 < s.2) (k : Nat) : form ((l.take k).foldl jn []) ∧ ((l.take k).foldl jn []).length ≤ k := by
  obtain ⟨k1, _, k3⟩ := fold_jn (l.take k) [] trivial (fun t ht => by cases ht) (hp.sublist (List.take_sublist k l)) (fun s hs => h0 s (List.mem_of_mem_take hs))
  refine ⟨k1, ?_⟩
  have := List.length_take_le k l
  simp only [List.length_nil, Nat.zero_add] at k3
  omega
/-- What lies in a window, span by span. -/
theorem cut_map (l : List Spn) (w : Spn) : formL (l.map fun s => (max s.1 w.1, min s.2 w.2)) = pair (cW 1) l [w] :=
  form_unique _ _ (formL_form _) (pair_form _ _ _) fun m => by
    rw [formL_has, and_has]
    constructor
    · rintro ⟨t, ht, q⟩
      obtain ⟨s, hs, rfl⟩ := List.mem_map.1 ht
      exact ⟨⟨s, hs, by omega, by omega⟩, w, List.mem_singleton.2 rfl, by omega, by omega⟩
    · rintro ⟨⟨s, hs, q1, q2⟩, t, ht, q3, q4⟩
      obtain rfl : t = w := List.mem_singleton.1 ht
      exact ⟨_, List.mem_map.2 ⟨s, hs, rfl⟩, by dsimp only; omega, by dsimp only; omega⟩
/-- What two rows have in common, pair by pair. -/
theorem meet_map (a b : List Spn) : formL (a.flatMap fun s => b.map fun t => (max s.1 t.1, min s.2 t.2)) = pair (cW 1) a b :=
  form_unique _ _ (formL_form _) (pair_form _ _ _) fun m => by
    rw [formL_has, and_has]
    constructor
    · rintro ⟨u, hu, q⟩
      obtain ⟨s, hs, k⟩ := List.mem_flatMap.1 hu
      obtain ⟨t, ht, rfl⟩ := List.mem_map.1 k
      exact ⟨⟨s, hs, by omega, by omega⟩, t, ht, by omega, by omega⟩
    · rintro ⟨⟨s, hs, q1, q2⟩, t, ht, q3, q4⟩
      exact ⟨_, List.mem_flatMap.2 ⟨s, hs, List.mem_map.2 ⟨t, ht, rfl⟩⟩, by dsimp only; omega, by dsimp only; omega⟩
theorem low_le (n : Int) {b x : Int} (hx : -9223372036854775808 ≤ x) : lowI n b ≤ x ↔ n - max b 0 ≤ x := by
  unfold lowI; split
  · split <;> omega
  · omega
theorem high_lt (n : Int) {b x : Int} (hx : x < 9223372036854775807) : x < highI n b ↔ x < n + max b 0 := by
  unfold highI; split
  · split <;> omega
  · omega
/-- Spans grown one by one, those that are empty left out: the form grown. -/
theorem grow_ne {l : List Spn} (hl : ∀ s ∈ l, (-9223372036854775808 ≤ s.1 ∧ s.1 ≤ 9223372036854775807) ∧ -9223372036854775808 ≤ s.2 ∧ s.2 ≤ 9223372036854775807) (a b : Int) {p : Spn → Bool} (hp : ∀ s, p s = true ↔ s.1 < s.2) :
    formL ((l.filter p).map fun s => (lowI s.1 a, highI s.2 b)) = growL l a b := by
  have lo_ge : ∀ n c : Int, -9223372036854775808 ≤ n → -9223372036854775808 ≤ lowI n c := fun n c h => by unfold lowI; split <;> (try split) <;> omega
  have hi_le : ∀ n c : Int, n ≤ 9223372036854775807 → highI n c ≤ 9223372036854775807 := fun n c h => by unfold highI; split <;> (try split) <;> omega
  have hf : ∀ s ∈ formL l, -9223372036854775808 ≤ s.1 ∧ s.2 ≤ 9223372036854775807 := in_bd (formL_form l) fun x hx => by
    obtain ⟨s, hs, q1, q2⟩ := (formL_has l x).1 hx
    have := hl s hs
    omega
  refine formL_congr fun x => ?_
  constructor
  · rintro ⟨u, hu, q1, q2⟩
    obtain ⟨s, hs, rfl⟩ := List.mem_map.1 hu
    obtain ⟨hs, hn⟩ := List.mem_filter.1 hs
    have hn := (hp s).1 hn
    have hb := hl s hs
    have q3 := lo_ge s.1 a hb.1.1
    have q4 := hi_le s.2 b hb.2.2
    dsimp only at q1 q2
    obtain ⟨t, ht, t1, t2⟩ := form_one (formL_form l) (a := s.1) (b := s.2) hn (fun y y1 y2 => (formL_has l y).2 ⟨s, hs, y1, y2⟩)
    have w1 := (low_le s.1 (b := a) (x := x) (by omega)).1 q1
    have w2 := (high_lt s.2 (b := b) (x := x) (by omega)).1 q2
    exact ⟨_, List.mem_map.2 ⟨t, ht, rfl⟩, (low_le _ (by omega)).2 (by omega), (high_lt _ (by omega)).2 (by omega)⟩
  · rintro ⟨u, hu, q1, q2⟩
    obtain ⟨t, ht, rfl⟩ := List.mem_map.1 hu
    have hb := hf t ht
    have hn := form_pos (formL_form l) ht
    have q3 := lo_ge t.1 a hb.1
    have q4 := hi_le t.2 b hb.2
    dsimp only at q1 q2
    have w1 := (low_le t.1 (b := a) (x := x) (by omega)).1 q1
    have w2 := (high_lt t.2 (b := b) (x := x) (by omega)).1 q2
    have pick : ∀ y, t.1 ≤ y → y < t.2 → (y ≤ x ∨ y = t.1) → (x ≤ y ∨ y = t.2 - 1) → ∃ s ∈ (l.filter p).map fun s => (lowI s.1 a, highI s.2 b), s.1 ≤ x ∧ x < s.2 := by
      intro y y1 y2 y3 y4
      obtain ⟨s, hs, s1, s2⟩ := (formL_has l y).1 ⟨t, ht, y1, y2⟩
      refine ⟨_, List.mem_map.2 ⟨s, List.mem_filter.2 ⟨hs, (hp s).2 (by omega)⟩, rfl⟩, (low_le _ (by omega)).2 ?_, (high_lt _ (by omega)).2 ?_⟩
      · rcases y3 with y3 | y3 <;> omega
      · rcases y4 with y4 | y4 <;> omega
    by_cases c1 : x < t.1
    · exact pick t.1 (Int.le_refl _) hn (.inr rfl) (.inl (by omega))
    · by_cases c2 : x < t.2
      · exact pick x (by omega) c2 (.inl (Int.le_refl _)) (.inl (Int.le_refl _))
      · exact pick (t.2 - 1) (by omega) (by omega) (.inl (by omega)) (.inr rfl)
end Sp
