/- The program's disk in memory; contracts of what only asks it. -/
import Derived.Test.YtabknmlnlhflmaaDoorRows
import Derived.Test.YtabknmlnlhflmaaDoorOff
import Derived.Test.YtabknmlnlhflmaaDoorDMath
import Derived.Deep.RegionLaw
import Derived.Laws.CopyOwn
namespace Go.Proofs.YtabknmlnlhflmaaDoor
open Go.ChangeShapes Go.WideShapes Go.ChangeAt Go.RowKit Dm

/-- Writes that wait, as cells: the bytes' blocks lie in a set. -/
def Waits (w : World) (K : Nat → Prop) : List (Nat × List UInt8) → List Value → Prop
  | [], xs => xs = []
  | p :: r, xs => ∃ A c rest, xs = .int .i64 (p.1 : Int) :: .slice A p.2.length c :: rest ∧ p.2.length ≤ c ∧ c ≤ maxLen ∧ (A = none → c = 0) ∧ BIn K w A p.2 ∧ Waits w K r rest
section
variable {w w' : World} {K K' F : Nat → Prop}
theorem Waits.len : ∀ {l : List (Nat × List UInt8)} {xs : List Value}, Waits w K l xs → xs.length = l.length * 2
  | [], _, h => by obtain rfl := h; rfl
  | p :: r, _, h => by obtain ⟨A, c, rest, rfl, _, _, _, _, h⟩ := h; have := h.len; simp; omega
theorem Waits.off (ho : Off F w w') (hK : ∀ b, K b → ¬ F b) : ∀ {l : List (Nat × List UInt8)} {xs : List Value}, Waits w K l xs → Waits w' K l xs
  | [], _, h => h
  | p :: r, _, h => by obtain ⟨A, c, rest, e, h1, h2, h3, h4, h⟩ := h; exact ⟨A, c, rest, e, h1, h2, h3, h4.off ho hK, h.off ho hK⟩
theorem Waits.mono (hK : ∀ b, b < w.heap.size → K b → K' b) : ∀ {l : List (Nat × List UInt8)} {xs : List Value}, Waits w K l xs → Waits w K' l xs
  | [], _, h => h
  | p :: r, _, h => by obtain ⟨A, c, rest, e, h1, h2, h3, h4, h⟩ := h; exact ⟨A, c, rest, e, h1, h2, h3, h4.mono hK, h.mono hK⟩
theorem Waits.at_ : ∀ {l : List (Nat × List UInt8)} {xs : List Value}, Waits w K l xs → ∀ {i : Nat} {p}, l[i]? = some p → ∃ A c, xs[i * 2]? = some (.int .i64 (p.1 : Int)) ∧ xs[i * 2 + 1]? = some (.slice A p.2.length c) ∧ p.2.length ≤ c ∧ c ≤ maxLen ∧ (A = none → c = 0) ∧ BIn K w A p.2
  | [], _, _, i, p, hp => by simp at hp
  | q :: r, _, h, 0, p, hp => by
    obtain ⟨A, c, rest, rfl, h1, h2, h3, h4, h⟩ := h
    obtain rfl : q = p := by simpa using hp
    exact ⟨A, c, rfl, rfl, h1, h2, h3, h4⟩
  | q :: r, _, h, i + 1, p, hp => by
    obtain ⟨A, c, rest, rfl, h1, h2, h3, h4, h⟩ := h
    obtain ⟨A', c', e1, e2, r⟩ := h.at_ (i := i) (by simpa using hp)
    refine ⟨A', c', ?_, ?_, r⟩
    · rw [show (i + 1) * 2 = i * 2 + 1 + 1 by omega]; simpa using e1
    · rw [show (i + 1) * 2 + 1 = i * 2 + 1 + 1 + 1 by omega]; simpa using e2
theorem Waits.snoc {p : Nat × List UInt8} {A : Option Addr} {c : Nat} (h1 : p.2.length ≤ c) (h2 : c ≤ maxLen) (h3 : A = none → c = 0) (h4 : BIn K w A p.2) : ∀ {l : List (Nat × List UInt8)} {xs : List Value}, Waits w K l xs → Waits w K (l ++ [p]) (xs ++ [.int .i64 (p.1 : Int), .slice A p.2.length c])
  | [], _, h => by obtain rfl := h; exact ⟨A, c, [], rfl, h1, h2, h3, h4, rfl⟩
  | q :: r, _, h => by
    obtain ⟨A', c', rest, rfl, g1, g2, g3, g4, h⟩ := h
    exact ⟨A', c', _, rfl, g1, g2, g3, g4, h.snoc h1 h2 h3 h4⟩
theorem Waits.take : ∀ {l : List (Nat × List UInt8)} {xs : List Value} (i : Nat), Waits w K l xs → Waits w K (l.take i) (xs.take (i * 2))
  | [], _, i, h => by obtain rfl := h; simp [Waits]
  | q :: r, _, 0, h => by simp [Waits]
  | q :: r, _, i + 1, h => by
    obtain ⟨A', c', rest, rfl, g1, g2, g3, g4, h⟩ := h
    rw [show (i + 1) * 2 = i * 2 + 1 + 1 by omega]
    exact ⟨A', c', _, rfl, g1, g2, g3, g4, h.take i⟩
end

structure DiskIn (w : World) (D L : Nat) (wv : Value) (xs : List Value) (m : Dk) (F : Nat → Prop) : Prop where
  ok : m.Ok
  blk : w.heap[D]? = some (.cells #[.slice (some ⟨L, 0, none⟩) m.laid.length m.laid.length, wv, .bool m.on, .int .i64 m.falls, .int .i64 m.fuse, .int .i64 m.keep] 48 (0, 0))
  lblk : w.heap[L]? = some (.cells (bl m.laid).toArray 5 (0, 0))
  own : w.ownsRow 0 71 2 wv m.waits.length xs
  waits : Waits w (fun k => F k ∧ k ≠ D ∧ k ≠ L ∧ wv.ownBlock ≠ some k) m.waits xs
  ne : D ≠ L
  neD : wv.ownBlock ≠ some D
  neL : wv.ownBlock ≠ some L
  fD : F D
  fL : F L
  fW : ∀ k, wv.ownBlock = some k → F k
  lt : ∀ k, F k → k < w.heap.size
def DiskAt (w : World) (D : Nat) (m : Dk) (F : Nat → Prop) : Prop := ∃ L wv xs, DiskIn w D L wv xs m F
/-- A disk that a call has turned: what it reaches lay there, or is new. -/
def DiskTo (w w' : World) (D : Nat) (m : Dk) (F : Nat → Prop) : Prop := ∃ F', DiskAt w' D m F' ∧ Off F w w' ∧ ∀ k, F' k → F k ∨ w.heap.size ≤ k

section
variable {w w' : World} {D L : Nat} {wv : Value} {xs : List Value} {m : Dk} {F G : Nat → Prop}
theorem DiskIn.cells (h : DiskIn w D L wv xs m F) : w.cell? ⟨D, 0, none⟩ = some (.slice (some ⟨L, 0, none⟩) m.laid.length m.laid.length) ∧ w.cell? ⟨D, 1, none⟩ = some wv ∧ w.cell? ⟨D, 2, none⟩ = some (.bool m.on) ∧ w.cell? ⟨D, 3, none⟩ = some (.int .i64 m.falls) ∧ w.cell? ⟨D, 4, none⟩ = some (.int .i64 m.fuse) ∧ w.cell? ⟨D, 5, none⟩ = some (.int .i64 m.keep) := by
  have hb := h.blk
  refine ⟨?_, ?_, ?_, ?_, ?_, ?_⟩ <;> simp [World.cell?, hb]
theorem DiskIn.free (h : DiskIn w D L wv xs m F) (i : Nat) : w.frozen? ⟨D, i, none⟩ = false := by
  have hb := h.blk
  simp [World.frozen?, hb]
theorem DiskIn.off (h : DiskIn w D L wv xs m F) (ho : Off G w w') (hG : ∀ b, F b → ¬ G b) : DiskIn w' D L wv xs m F :=
  ⟨h.ok, ho.heap h.blk (hG _ h.fD), ho.heap h.lblk (hG _ h.fL), own_off h.own ho fun k hk => hG _ (h.fW k hk), h.waits.off ho fun b hb => hG _ hb.1, h.ne, h.neD, h.neL, h.fD, h.fL, h.fW, fun k hk => Nat.lt_of_lt_of_le (h.lt k hk) ho.size⟩
theorem DiskAt.off (h : DiskAt w D m F) (ho : Off G w w') (hG : ∀ b, F b → ¬ G b) : DiskAt w' D m F := by
  obtain ⟨L, wv, xs, h⟩ := h
  exact ⟨L, wv, xs, h.off ho hG⟩
theorem DiskAt.below (h : DiskAt w D m F) (hb : Below w.heap.size w w') : DiskAt w' D m F := h.off (Off.of_below (F := fun _ => False) hb) fun _ _ h => h
theorem DiskAt.ok (h : DiskAt w D m F) : m.Ok := by obtain ⟨L, wv, xs, h⟩ := h; exact h.ok
theorem DiskAt.self (h : DiskAt w D m F) : DiskTo w w D m F := ⟨F, h, .refl _ _, fun _ hk => .inl hk⟩
theorem DiskTo.trans {w1 w2 : World} {m1 m2 : Dk} (h : DiskTo w w1 D m1 F) (k : ∀ F1, DiskAt w1 D m1 F1 → DiskTo w1 w2 D m2 F1) : DiskTo w w2 D m2 F := by
  obtain ⟨F1, h1, o1, i1⟩ := h
  obtain ⟨F2, h2, o2, i2⟩ := k F1 h1
  exact ⟨F2, h2, o1.trans o2 i1, fun b hb => (i2 b hb).elim (i1 b) fun hs => .inr (Nat.le_trans o1.size hs)⟩
end

theorem disk_on_any (D : Nat) (m : Dk) (F : Nat → Prop) (w : World) (h : DiskAt w D m F) :
    Calls Tryd.prog 15 #[.pointer (some ⟨D, 0, none⟩)] w fun e w' => e = .returned (.bool m.on) ∧ w = w' := by
  obtain ⟨L, wv, xs, h⟩ := h
  obtain ⟨c0, c1, c2, cF, c3, c4⟩ := h.cells
  clear h
  go_enter Tryd.func15, Tryd.ntmps15
  go_wp2
  go_ret
  exact ⟨rfl, rfl⟩
theorem disk_on_nil (w : World) :
    Calls Tryd.prog 15 #[.pointer none] w fun e w' => e = .returned (.bool false) ∧ w = w' := by
  go_enter Tryd.func15, Tryd.ntmps15
  go_wp2
  go_ret
  exact ⟨rfl, rfl⟩
theorem disk_size_any (D : Nat) (m : Dk) (F : Nat → Prop) (w : World) (h : DiskAt w D m F) :
    Calls Tryd.prog 17 #[.pointer (some ⟨D, 0, none⟩)] w fun e w' => e = .returned (.int .i64 m.laid.length) ∧ w = w' := by
  obtain ⟨L, wv, xs, h⟩ := h
  obtain ⟨c0, c1, c2, cF, c3, c4⟩ := h.cells
  clear h
  go_enter Tryd.func17, Tryd.ntmps17
  go_wp2
  go_ret
  exact ⟨rfl, rfl⟩
theorem disk_size_nil (w : World) :
    Calls Tryd.prog 17 #[.pointer none] w fun e w' => e = .returned (.int .i64 0) ∧ w = w' := by
  go_enter Tryd.func17, Tryd.ntmps17
  go_wp2
  go_ret
  exact ⟨rfl, rfl⟩
theorem disk_has_any (D : Nat) (m : Dk) (F : Nat → Prop) (a n : Int) (ha : -9223372036854775808 ≤ a ∧ a ≤ 9223372036854775807) (hn : -9223372036854775808 ≤ n ∧ n ≤ 9223372036854775807) (w : World) (h : DiskAt w D m F) :
    Calls Tryd.prog 38 #[.pointer (some ⟨D, 0, none⟩), .int .i64 a, .int .i64 n] w fun e w' => e = .returned (.bool (m.hasB a n)) ∧ w = w' := by
  obtain ⟨L, wv, xs, h⟩ := h
  obtain ⟨c0, c1, c2, cF, c3, c4⟩ := h.cells
  have hs := h.ok.size
  clear h
  obtain ⟨r, hr⟩ : ∃ r, m.hasB a n = r := ⟨_, rfl⟩
  have HR : Hid (m.hasB a n = r) := hr
  rw [hr]
  clear hr
  go_enter Tryd.func38, Tryd.ntmps38
  go_wp2
  all_goals
    go_ret
    refine ⟨ret_bool ?_, rfl⟩
    rw [← HR.out]
    unfold Dk.hasB
    rw [Bool.eq_iff_iff]
    simp
    try omega
end Go.Proofs.YtabknmlnlhflmaaDoor
