/- Rows of elements of any kind, as cells. -/
import Derived.Test.YtldfemohnommoaaRK
import Derived.Lib.SmallJoins
namespace Go.Proofs.Ytldfemohnommoaa
open Go.ChangeShapes Go.WideShapes Go.ChangeAt Go.RowKit Go.Joins

/-- Elements as cells. -/
def kv {α : Type} (f : α → List Value) : List α → List Value
  | [] => []
  | x :: r => f x ++ kv f r
theorem kv_len {α : Type} {f : α → List Value} {n : Nat} (hf : ∀ x, (f x).length = n) (l : List α) : (kv f l).length = l.length * n := by
  induction l with
  | nil => simp [kv]
  | cons s r ih => simp [kv, ih, hf, Nat.succ_mul]; omega
theorem kv_at {α : Type} {f : α → List Value} {n : Nat} (hf : ∀ x, (f x).length = n) : ∀ {l : List α} {i j : Nat} {x : α} {v : Value}, l[i]? = some x → (f x)[j]? = some v → (kv f l)[i * n + j]? = some v
  | y :: r, 0, j, x, v, h, hv => by
    obtain rfl : y = x := by simpa using h
    have hj := (List.getElem?_eq_some_iff.1 hv).1
    rw [kv, List.getElem?_append_left (by simpa using hj)]
    simpa using hv
  | y :: r, i + 1, j, x, v, h, hv => by
    have ih := kv_at hf (l := r) (i := i) (j := j) (x := x) (by simpa using h) hv
    rw [kv, List.getElem?_append_right (by rw [hf, Nat.succ_mul]; omega), hf, show (i + 1) * n + j - n = i * n + j by rw [Nat.succ_mul]; omega]
    exact ih
theorem Sl.kvG {α : Type} {f : α → List Value} {n m c : Nat} {w : World} {A : Option Addr} {l : List α} (hf : ∀ x, (f x).length = n) (hn : 0 < n) (h : Sl w A m c (kv f l)) {i : Nat} {x : α} (hi : l[i]? = some x) :
    ∃ b off, A = some ⟨b, off, none⟩ ∧ b < w.heap.size ∧ ∀ (g : Gr w) (j : Nat) (v : Value), (f x)[j]? = some v → g.val.cell? ⟨b, off + (i * n + j), none⟩ = some v := by
  have hl := (List.getElem?_eq_some_iff.1 hi).1
  obtain ⟨b, off, e, hlt, hc⟩ := h.on (by rw [kv_len hf]; exact Nat.mul_pos (by omega) hn)
  exact ⟨b, off, e, hlt, fun g j v hv => cell_old (hc _ _ (kv_at hf hi hv)) g.ok⟩
end Go.Proofs.Ytldfemohnommoaa
