/- A row of the call's own that is written in place: its block known; what the library's sort leaves of it. -/
import Derived.Test.YtdpgmhjhmccfnaaOff
import Derived.Test.YtdpgmhjhmccfnaaSK
import Derived.Lib.SmallJoins
import Derived.Sort.Grow
import Derived.Lib.SliceRun
namespace Go.Proofs.Ytdpgmhjhmccfnaa
open Go.ChangeShapes Go.WideShapes Go.ChangeAt Go.RowKit Go.Sort Go.Joins Sp

/-- A block's first cells are these. -/
def RowAt (V : World) (g cap : Nat) (t : TypeId) (xs : List Value) : Prop := ∃ cur, V.heap[g]? = some (.cells cur t (0, 0)) ∧ cur.size = cap ∧ cap ≤ maxLen ∧ xs.length ≤ cap ∧ cur.toList.take xs.length = xs
section
variable {V V' : World} {g cap : Nat} {t : TypeId} {xs : List Value}
theorem RowAt.get (h : RowAt V g cap t xs) {i : Nat} {v : Value} (hi : xs[i]? = some v) : V.cell? ⟨g, i, none⟩ = some v ∧ V.frozen? ⟨g, i, none⟩ = false := by
  obtain ⟨cur, h1, _, _, _, h5⟩ := h
  have hl := (List.getElem?_eq_some_iff.1 hi).1
  have h6 : (cur.toList.take xs.length)[i]? = some v := by rw [h5]; exact hi
  rw [List.getElem?_take_of_lt hl, Array.getElem?_toList] at h6
  exact ⟨by simp [World.cell?, h1, h6], by simp [World.frozen?, h1]⟩
theorem RowAt.set (h : RowAt V g cap t xs) (i : Nat) (v : Value) : RowAt (V.setCell ⟨g, i, none⟩ v) g cap t (xs.set i v) := by
  obtain ⟨cur, h1, h2, h3, h4, h5⟩ := h
  refine ⟨_, block_setCell h1 v, by simpa using h2, h3, by simpa using h4, ?_⟩
  rw [Array.toList_setIfInBounds, List.length_set]
  conv => rhs; rw [← h5]
  first | rw [List.take_set] | simp [List.take_set]
theorem RowAt.cut (h : RowAt V g cap t xs) (k : Nat) : RowAt V g cap t (xs.take k) := by
  obtain ⟨cur, h1, h2, h3, h4, h5⟩ := h
  refine ⟨cur, h1, h2, h3, by rw [List.length_take]; omega, ?_⟩
  have : (cur.toList.take xs.length).take k = xs.take k := by rw [h5]
  rw [List.take_take] at this
  rw [List.length_take, this]
theorem RowAt.far (h : RowAt V g cap t xs) {i : Nat} (hi : xs.length ≤ i) (v : Value) : RowAt (V.setCell ⟨g, i, none⟩ v) g cap t xs := by
  have := h.set i v
  rwa [List.set_eq_of_length_le hi] at this
theorem RowAt.farAll : ∀ (vs : List Value) (i : Nat) (V : World), RowAt V g cap t xs → xs.length ≤ i → RowAt (V.setCells g i vs) g cap t xs
  | [], _, _, h, _ => h
  | v :: vs, i, V, h, hi => farAll vs (i + 1) (V.setCell ⟨g, i, none⟩ v) (h.far hi v) (by omega)
theorem RowAt.off {F : Nat → Prop} (h : RowAt V g cap t xs) (ho : Off F V V') (hF : ¬ F g) : RowAt V' g cap t xs := by
  obtain ⟨cur, h1, r⟩ := h
  exact ⟨cur, ho.heap h1 hF, r⟩
theorem RowAt.below {B : Nat} (h : RowAt V g cap t xs) (hb : Below B V V') (hg : g < B) : RowAt V' g cap t xs := by
  obtain ⟨cur, h1, r⟩ := h
  exact ⟨cur, by rw [hb.block g hg]; exact h1, r⟩
theorem RowAt.lt (h : RowAt V g cap t xs) : g < V.heap.size := by
  obtain ⟨cur, h1, r⟩ := h
  exact heap_lt h1
theorem RowAt.of_own {base : Nat} {n : Nat} {v : Value} (h : V.ownsRow base t 1 v n xs) : (v = .slice none 0 0 ∧ n = 0 ∧ xs = []) ∨ ∃ g cap, v = .slice (some ⟨g, 0, none⟩) n cap ∧ base ≤ g ∧ n ≤ cap ∧ RowAt V g cap t xs := by
  obtain ⟨hl, ⟨e, h0⟩ | ⟨g, cap, cur, e, hb, hc, h1, h2, h3, h4⟩⟩ := h
  · exact .inl ⟨e, h0, List.eq_nil_of_length_eq_zero (by rw [hl, h0, Nat.zero_mul])⟩
  · refine .inr ⟨g, cap, e, hb, h1, cur, hc, by omega, h2, by omega, ?_⟩
    rw [hl]; exact h4
theorem RowAt.two_of_own {base : Nat} {n : Nat} {v : Value} (h : V.ownsRow base t 2 v n xs) (hc : xs.length ≤ maxLen) : (v = .slice none 0 0 ∧ n = 0 ∧ xs = []) ∨ ∃ g cap cur, v = .slice (some ⟨g, 0, none⟩) n cap ∧ base ≤ g ∧ n ≤ cap ∧ cap ≤ maxLen ∧ V.heap[g]? = some (.cells cur t (0, 0)) ∧ cur.size = cap * 2 ∧ cur.toList.take (n * 2) = xs := by
  obtain ⟨hl, ⟨e, h0⟩ | ⟨g, cap, cur, e, hb, hc, h1, h2, h3, h4⟩⟩ := h
  · exact .inl ⟨e, h0, List.eq_nil_of_length_eq_zero (by rw [hl, h0, Nat.zero_mul])⟩
  · exact .inr ⟨g, cap, cur, e, hb, h1, h2, hc, h3, h4⟩
theorem RowAt.toSl (h : RowAt V g cap t xs) : Sl V (some ⟨g, 0, none⟩) xs.length cap xs := by
  have h' := h
  obtain ⟨cur, h1, h2, h3, h4, h5⟩ := h'
  refine ⟨h4, h3, (fun q => by cases q), fun _ => ⟨g, 0, rfl, heap_lt h1, fun i v hi => ?_⟩⟩
  rw [Nat.zero_add]; exact (h.get hi).1
/-- What a row's block is behind a sort of its first cells. -/
theorem heap_put {α : Type} [Inhabited α] (enc : α → Value) {w : World} {g n : Nat} {os : Array Obj} {cur : Array Value} {e : TypeId} {fr : Nat × Nat} (d : Array α) (hb : w.heap[g]? = some (.cells cur e fr)) :
    (grow (putRow enc (Sort.ahead w n) g 0 d) os).heap[g]? = some (.cells (putCells enc 0 d cur) e fr) := by
  have hg : g < w.heap.size := (Array.getElem?_eq_some_iff.1 hb).1
  rw [heap_grow_old _ _ (by simpa using hg)]
  simp [putRow, mapBlock, Sort.ahead, Array.getElem?_modify, hb, onCells]
theorem off_put {α : Type} [Inhabited α] (enc : α → Value) {w : World} {g n : Nat} {os : Array Obj} (d : Array α) : Off (fun b => b = g) w (grow (putRow enc (Sort.ahead w n) g 0 d) os) := by
  refine ⟨rfl, rfl, rfl, by simp, fun k hk hne => ?_⟩
  rw [heap_grow_old _ _ (by simpa using hk)]
  have : g ≠ k := fun e => hne (by rw [e])
  simp [putRow, mapBlock, Sort.ahead, Array.getElem?_modify, this]
theorem take_put {α : Type} [Inhabited α] (enc : α → Value) (cur : Array Value) (ts : List α) (h : ts.length ≤ cur.size) : (putCells enc 0 ts.toArray cur).toList.take ts.length = ts.map enc := by
  apply List.ext_getElem?
  intro j
  by_cases hj : j < ts.length
  · rw [List.getElem?_take_of_lt hj, Array.getElem?_toList]
    simp [putCells, hj, show j < cur.size by omega]
  · rw [List.getElem?_take_eq_none (by omega), List.getElem?_eq_none (by simp; omega)]
theorem RowAt.put {α : Type} [Inhabited α] (enc : α → Value) (h : RowAt V g cap t xs) (ts : List α) (hl : ts.length = xs.length) (n : Nat) (os : Array Obj) : RowAt (grow (putRow enc (Sort.ahead V n) g 0 ts.toArray) os) g cap t (ts.map enc) := by
  obtain ⟨cur, h1, h2, h3, h4, h5⟩ := h
  refine ⟨_, heap_put enc ts.toArray h1, by simp [putCells, h2], h3, by simp; omega, ?_⟩
  rw [List.length_map]
  exact take_put enc cur ts (by omega)
theorem RowAt.holds {α : Type} [Inhabited α] (enc : α → Value) {ts : List α} (h : RowAt V g cap t (ts.map enc)) : Holds enc V g 0 ts.toArray := by
  intro j hj
  have hj' : j < ts.length := by simpa using hj
  rw [Nat.zero_add]
  have h1 : (ts.map enc)[j]? = some (enc ts.toArray[j]!) := by
    rw [List.getElem?_map, List.getElem?_eq_getElem hj']
    simp [hj']
  exact h.get h1
end
theorem iv_map (l : List Int) : iv l = l.map (Value.int .i64) := by
  induction l with
  | nil => rfl
  | cons x l ih => simp [iv]
theorem iv_set (l : List Int) (i : Nat) (x : Int) : (iv l).set i (.int .i64 x) = iv (l.set i x) := by
  rw [iv_map, iv_map, List.map_set]
theorem off_setCells {F : Nat → Prop} {w : World} {g : Nat} (hg : F g) : ∀ (vs : List Value) (i : Nat) (V : World), Off F w V → Off F w (V.setCells g i vs)
  | [], _, _, h => h
  | v :: vs, i, V, h => off_setCells hg vs (i + 1) (V.setCell ⟨g, i, none⟩ v) (h.setCell (.inl hg) v)
end Go.Proofs.Ytdpgmhjhmccfnaa
