/- Rows of numbers and of spans, as cells. -/
import Derived.Test.YtdpgmhjhmccfnaaRK
import Derived.Test.YtdpgmhjhmccfnaaSMath2
namespace Go.Proofs.Ytdpgmhjhmccfnaa
open Go.ChangeShapes Go.WideShapes Go.ChangeAt Go.RowKit Sp

/-- Numbers as cells. -/
def iv (l : List Int) : List Value := l.map (Value.int .i64)
theorem iv_at {l : List Int} {i : Nat} {x : Int} (h : l[i]? = some x) : (iv l)[i]? = some (.int .i64 x) := by simp [iv, h]
theorem iv_len (l : List Int) : (iv l).length = l.length := by simp [iv]
theorem iv_app (a b : List Int) : iv (a ++ b) = iv a ++ iv b := by simp [iv]
theorem iv_take (l : List Int) (k : Nat) : (iv l).take k = iv (l.take k) := by simp [iv]
theorem iv_drop (l : List Int) (k : Nat) : (iv l).drop k = iv (l.drop k) := by simp [iv]
theorem iv_one {l : List Int} : ∀ u ∈ iv l, u.oneCell' = true := by
  intro u hu; obtain ⟨x, _, rfl⟩ := List.mem_map.1 hu; rfl
/-- Booleans as cells. -/
def bv (l : List Bool) : List Value := l.map Value.bool
theorem bv_at {l : List Bool} {i : Nat} {x : Bool} (h : l[i]? = some x) : (bv l)[i]? = some (.bool x) := by simp [bv, h]
theorem bv_len (l : List Bool) : (bv l).length = l.length := by simp [bv]
theorem bv_app (a b : List Bool) : bv (a ++ b) = bv a ++ bv b := by simp [bv]
theorem bv_one {l : List Bool} : ∀ u ∈ bv l, u.oneCell' = true := by
  intro u hu; obtain ⟨x, _, rfl⟩ := List.mem_map.1 hu; rfl
/-- Spans as cells. -/
def sv : List Spn → List Value
  | [] => []
  | s :: r => .int .i64 s.1 :: .int .i64 s.2 :: sv r
theorem sv_len (l : List Spn) : (sv l).length = l.length * 2 := by induction l with | nil => rfl | cons s r ih => simp [sv, ih]; omega
theorem sv_at : ∀ {l : List Spn} {i : Nat} {s : Spn}, l[i]? = some s → (sv l)[i * 2]? = some (.int .i64 s.1) ∧ (sv l)[i * 2 + 1]? = some (.int .i64 s.2)
  | x :: r, 0, s, h => by obtain rfl : x = s := by simpa using h
                          exact ⟨rfl, rfl⟩
  | x :: r, i + 1, s, h => by
    have ih := sv_at (l := r) (i := i) (s := s) (by simpa using h)
    rw [show (i + 1) * 2 = i * 2 + 1 + 1 by omega]
    exact ⟨by simpa [sv] using ih.1, by simpa [sv] using ih.2⟩
theorem sv_app (a b : List Spn) : sv (a ++ b) = sv a ++ sv b := by induction a with | nil => rfl | cons s r ih => simp [sv, ih]
theorem sv_one {l : List Spn} : ∀ u ∈ sv l, u.oneCell' = true := by
  induction l with
  | nil => intro u hu; cases hu
  | cons s r ih =>
    intro u hu
    simp only [sv, List.mem_cons] at hu
    rcases hu with rfl | rfl | hu
    · rfl
    · rfl
    · exact ih u hu
theorem Sl.span {w : World} {A : Option Addr} {n c : Nat} {l : List Spn} (h : Sl w A n c (sv l)) {i : Nat} {s : Spn} (hi : l[i]? = some s) :
    ∃ b off, A = some ⟨b, off, none⟩ ∧ b < w.heap.size ∧ w.cell? ⟨b, off + i * 2, none⟩ = some (.int .i64 s.1) ∧ w.cell? ⟨b, off + i * 2 + 1, none⟩ = some (.int .i64 s.2) := by
  obtain ⟨h1, h2⟩ := sv_at hi
  obtain ⟨b, off, e, hb, g1, g2⟩ := h.at2 h1 h2
  exact ⟨b, off, e, hb, g1, by rw [Nat.add_assoc]; exact g2⟩
theorem Sl.spanG {w : World} {A : Option Addr} {n c : Nat} {l : List Spn} (h : Sl w A n c (sv l)) {i : Nat} {s : Spn} (hi : l[i]? = some s) :
    ∃ b off, A = some ⟨b, off, none⟩ ∧ b < w.heap.size ∧ ∀ g : Gr w, g.val.cell? ⟨b, off + i * 2, none⟩ = some (.int .i64 s.1) ∧ g.val.cell? ⟨b, off + i * 2 + 1, none⟩ = some (.int .i64 s.2) := by
  obtain ⟨b, off, e, hb, g1, g2⟩ := h.span hi
  exact ⟨b, off, e, hb, fun g => ⟨cell_old g1 g.ok, cell_old g2 g.ok⟩⟩
theorem Sl.intG {w : World} {A : Option Addr} {n c : Nat} {l : List Int} (h : Sl w A n c (iv l)) {i : Nat} {x : Int} (hi : l[i]? = some x) :
    ∃ b off, A = some ⟨b, off, none⟩ ∧ b < w.heap.size ∧ ∀ g : Gr w, g.val.cell? ⟨b, off + i, none⟩ = some (.int .i64 x) := by
  obtain ⟨b, off, e, hb, g1⟩ := h.at_ (iv_at hi)
  exact ⟨b, off, e, hb, fun g => cell_old g1 g.ok⟩
/-- A row of numbers is handed back. -/
def RetI (l : List Int) (w : World) (e : Ending) (w' : World) : Prop := ∃ A c, e = .returned (.slice A l.length c) ∧ Sl w' A l.length c (iv l) ∧ Below w.heap.size w w'
/-- A row of spans is. -/
def RetS (l : List Spn) (w : World) (e : Ending) (w' : World) : Prop := ∃ A c, e = .returned (.slice A l.length c) ∧ Sl w' A l.length c (sv l) ∧ Below w.heap.size w w'
theorem hasB_nil (m : Int) : hasB [] m = false := rfl
theorem hasB_cons (s : Spn) (r : List Spn) (m : Int) : hasB (s :: r) m = (decide (s.1 ≤ m) && decide (m < s.2) || hasB r m) := by unfold hasB; rw [List.any_cons]
theorem drop_step {α : Type} {l : List α} {i : Nat} (h : i < l.length) : l.drop i = l[i] :: l.drop (i + 1) := List.drop_eq_getElem_cons h
end Go.Proofs.Ytdpgmhjhmccfnaa
