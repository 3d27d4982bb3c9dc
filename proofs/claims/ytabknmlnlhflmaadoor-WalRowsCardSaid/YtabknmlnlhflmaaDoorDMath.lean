/- A disk, as a value: what is laid down, what waits, whether it is on, its fuse. -/
namespace Go.Proofs.YtabknmlnlhflmaaDoor.Dm

/-- Bytes over others from a place on. -/
def over (s : List UInt8) (p : Nat × List UInt8) : List UInt8 := s.take p.1 ++ (p.2 ++ s.drop (p.1 + p.2.length))
/-- What the program lays over bytes that lie from a place on. -/
def lay (l : List UInt8) (at_ : Nat) (b : List UInt8) (from_ : Nat) : List UInt8 :=
  l.take (min (at_ - from_) l.length) ++ (((b.drop (min (from_ - at_) b.length)).take (l.length - min (at_ - from_) l.length)) ++ l.drop (min (at_ - from_) l.length + ((b.drop (min (from_ - at_) b.length)).take (l.length - min (at_ - from_) l.length)).length))

theorem over_len (s : List UInt8) (p : Nat × List UInt8) (h : p.1 + p.2.length ≤ s.length) : (over s p).length = s.length := by simp [over]; omega
theorem lay_len (l : List UInt8) (a : Nat) (b : List UInt8) (f : Nat) : (lay l a b f).length = l.length := by simp [lay]; omega
theorem over_at (s : List UInt8) (p : Nat × List UInt8) (h : p.1 + p.2.length ≤ s.length) (i : Nat) : (over s p)[i]? = if p.1 ≤ i ∧ i < p.1 + p.2.length then p.2[i - p.1]? else s[i]? := by
  unfold over
  by_cases h1 : i < p.1
  · rw [if_neg (by omega), List.getElem?_append_left (by simp; omega), List.getElem?_take, if_pos h1]
  · rw [List.getElem?_append_right (by simp; omega), List.length_take, Nat.min_eq_left (by omega)]
    by_cases h2 : i < p.1 + p.2.length
    · rw [if_pos ⟨by omega, h2⟩, List.getElem?_append_left (by omega)]
    · rw [if_neg (by omega), List.getElem?_append_right (by omega), List.getElem?_drop]
      congr 1; omega
theorem lay_at (l : List UInt8) (a : Nat) (b : List UInt8) (f i : Nat) (hi : i < l.length) : (lay l a b f)[i]? = if a ≤ f + i ∧ f + i < a + b.length then b[f + i - a]? else l[i]? := by
  unfold lay
  have hlen : ((b.drop (min (f - a) b.length)).take (l.length - min (a - f) l.length)).length = min (l.length - min (a - f) l.length) (b.length - min (f - a) b.length) := by simp
  rw [hlen]
  by_cases h1 : i < min (a - f) l.length
  · rw [if_neg (by omega), List.getElem?_append_left (by simp; omega), List.getElem?_take, if_pos h1]
  · rw [List.getElem?_append_right (by simp; omega), List.length_take]
    by_cases h2 : i - min (min (a - f) l.length) l.length < min (l.length - min (a - f) l.length) (b.length - min (f - a) b.length)
    · rw [if_pos (by omega), List.getElem?_append_left (by rw [hlen]; exact h2), List.getElem?_take, if_pos (by omega), List.getElem?_drop]
      congr 1; omega
    · rw [if_neg (by omega), List.getElem?_append_right (by rw [hlen]; omega), hlen, List.getElem?_drop]
      congr 1; omega
theorem lay_over (s : List UInt8) (p : Nat × List UInt8) (h : p.1 + p.2.length ≤ s.length) : lay s p.1 p.2 0 = over s p := by
  apply List.ext_getElem?
  intro i
  by_cases hi : i < s.length
  · rw [lay_at _ _ _ _ _ hi, over_at _ _ h]; simp
  · rw [List.getElem?_eq_none (by rw [lay_len]; omega), List.getElem?_eq_none (by rw [over_len _ _ h]; omega)]
theorem lay_part (s : List UInt8) (p : Nat × List UInt8) (h : p.1 + p.2.length ≤ s.length) (f n : Nat) (hf : f + n ≤ s.length) :
    lay ((s.drop f).take n) p.1 p.2 f = ((over s p).drop f).take n := by
  have hl : ((s.drop f).take n).length = n := by simp; omega
  apply List.ext_getElem?
  intro i
  by_cases hi : i < n
  · rw [lay_at _ _ _ _ _ (by omega), List.getElem?_take, if_pos hi, List.getElem?_drop, List.getElem?_take, if_pos hi, List.getElem?_drop, over_at _ _ h]
  · rw [List.getElem?_eq_none (by rw [lay_len]; omega), List.getElem?_eq_none (by simp; omega)]

/-- What lies behind all writes of a row. -/
def seen (s : List UInt8) (l : List (Nat × List UInt8)) : List UInt8 := l.foldl over s
def Fits (n : Nat) (l : List (Nat × List UInt8)) : Prop := ∀ p ∈ l, p.1 + p.2.length ≤ n
theorem fits_nil (n : Nat) : Fits n [] := fun p hp => by cases hp
theorem seen_len : ∀ (l : List (Nat × List UInt8)) (s : List UInt8), Fits s.length l → (seen s l).length = s.length
  | [], _, _ => rfl
  | p :: r, s, h => by
    have hp := h p (by simp)
    have := seen_len r (over s p) (by rw [over_len _ _ hp]; exact fun q hq => h q (by simp [hq]))
    rw [over_len _ _ hp] at this
    exact this
theorem seen_snoc (s : List UInt8) (l : List (Nat × List UInt8)) (p) : seen s (l ++ [p]) = over (seen s l) p := by simp [seen, List.foldl_append]
/-- The first bytes of all that waits. -/
def first : Nat → List (Nat × List UInt8) → List (Nat × List UInt8)
  | _, [] => []
  | k, p :: r => if k < p.2.length then [(p.1, p.2.take k)] else p :: first (k - p.2.length) r
theorem first_fits : ∀ (l : List (Nat × List UInt8)) (k n : Nat), Fits n l → Fits n (first k l)
  | [], _, _, _ => by intro p hp; cases hp
  | q :: r, k, n, h => by
    intro p hp
    unfold first at hp
    split at hp
    · obtain rfl : p = (q.1, q.2.take k) := by simpa using hp
      have := h q (by simp)
      simp; omega
    · rcases List.mem_cons.1 hp with rfl | hp
      · exact h _ (by simp)
      · exact first_fits r _ n (fun p hp => h p (by simp [hp])) p hp
theorem first_len : ∀ (l : List (Nat × List UInt8)) (k : Nat), (first k l).length ≤ l.length
  | [], _ => Nat.le_refl _
  | q :: r, k => by
    unfold first
    split
    · simp
    · have := first_len r (k - q.2.length); simp; omega

/-- One fall more, as the machine counts. -/
def up (n : Int) : Int := (n + 1 + 9223372036854775808) % 18446744073709551616 - 9223372036854775808

structure Dk where
  laid : List UInt8
  waits : List (Nat × List UInt8)
  on : Bool
  falls : Int
  fuse : Int
  keep : Int
namespace Dk
def seen (m : Dk) : List UInt8 := Dm.seen m.laid m.waits
def sync (m : Dk) : Dk := { m with laid := m.seen, waits := [] }
def fall (m : Dk) (k : Int) : Dk := { m with laid := Dm.seen m.laid (first k.toNat m.waits), waits := [], on := false, falls := up m.falls }
def new (n : Nat) : Dk := ⟨List.replicate n 0, [], true, 0, -1, 0⟩
def hasB (m : Dk) (at_ n : Int) : Bool := decide (0 ≤ n ∧ 0 ≤ at_ ∧ at_ ≤ m.laid.length - n)
/-- A write that was told, as it waits. -/
def told (m : Dk) (at_ : Int) (b : List UInt8) : Dk := if b = [] then m else { m with waits := m.waits ++ [(at_.toNat, b)] }
def burn (m : Dk) : Int × Dk := if m.fuse = 0 then (12, if m.on then m.fall m.keep else m) else if 0 < m.fuse then (0, { m with fuse := m.fuse - 1 }) else (0, m)
def write (m : Dk) (at_ : Int) (b : List UInt8) : Int × Dk := if m.on = false then (12, m) else if m.hasB at_ b.length = false then (3, m) else (m.told at_ b).burn
def setFuse (m : Dk) (n k : Int) : Dk := { m with fuse := n, keep := k }
def back (m : Dk) : Dk := { m with on := true, fuse := -1 }
structure Ok (m : Dk) : Prop where
  size : m.laid.length ≤ 4194304
  fits : Fits m.laid.length m.waits
  fuse : -9223372036854775808 ≤ m.fuse ∧ m.fuse ≤ 9223372036854775807
  keep : -9223372036854775808 ≤ m.keep ∧ m.keep ≤ 9223372036854775807
  many : m.waits.length ≤ 4294967296
theorem new_ok {n : Nat} (h : n ≤ 4194304) : (new n).Ok := ⟨by simpa [new] using h, fits_nil _, by simp [new], by simp [new], by simp [new]⟩
theorem Ok.sync {m : Dk} (h : m.Ok) : m.sync.Ok := ⟨by show (Dm.seen _ _).length ≤ _; rw [seen_len _ _ h.fits]; exact h.size, fits_nil _, h.fuse, h.keep, Nat.zero_le _⟩
theorem fall_len {m : Dk} (h : m.Ok) (k : Int) : (m.fall k).laid.length = m.laid.length := seen_len _ _ (first_fits _ _ _ h.fits)
theorem Ok.fall {m : Dk} (h : m.Ok) (k : Int) : (m.fall k).Ok := ⟨by rw [fall_len h]; exact h.size, fits_nil _, h.fuse, h.keep, Nat.zero_le _⟩
end Dk
end Go.Proofs.YtabknmlnlhflmaaDoor.Dm
