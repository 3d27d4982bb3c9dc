/- Plain mathematics of numbers that bytes begin with. -/
import Derived.Test.YtldfemohnommoaaPMath2
namespace Pk
open Fr
/-- Bytes up to the first one below 128, and those behind. -/
def goT : List UInt8 → Option (List UInt8 × List UInt8)
  | [] => none
  | b :: l => if b.toNat < 128 then some ([b], l) else (goT l).map fun x => (b :: x.1, x.2)
/-- The number that bytes begin with, and what stands behind it. -/
def firstT (l : List UInt8) : Option (Nat × List UInt8) := match goT l with
  | none => none
  | some (p, r) => if numB p = true ∧ valT p < 18446744073709551616 then some (valT p, r) else none
def Great (a : List UInt8) : Prop := ∀ b ∈ a, 128 ≤ b.toNat
theorem Great.nil : Great [] := fun _ h => by cases h
theorem Great.snoc {a : List UInt8} {c : UInt8} (h : Great a) (hc : 128 ≤ c.toNat) : Great (a ++ [c]) := fun b hb => by
  rcases List.mem_append.1 hb with hb | hb
  · exact h b hb
  · obtain rfl : b = c := by simpa using hb
    exact hc
theorem goT_great : ∀ {a : List UInt8} (t : List UInt8), Great a → goT (a ++ t) = (goT t).map fun x => (a ++ x.1, x.2)
  | [], t, _ => by cases h : goT t <;> simp [h]
  | b :: a, t, h => by
    have hb := h b (by simp)
    have ih := goT_great (a := a) t fun x hx => h x (by simp [hx])
    rw [List.cons_append, goT, if_neg (by omega), ih]
    cases goT t <;> simp
theorem goT_one {c : UInt8} {t : List UInt8} (h : c.toNat < 128) : goT (c :: t) = some ([c], t) := by rw [goT, if_pos h]
theorem first_none {a : List UInt8} (h : Great a) : firstT a = none := by
  have := goT_great [] h
  rw [List.append_nil] at this
  unfold firstT; rw [this]; simp [goT]
theorem goT_split : ∀ {l p r : List UInt8}, goT l = some (p, r) → l = p ++ r
  | [], p, r, h => by simp [goT] at h
  | b :: l, p, r, h => by
    rw [goT] at h
    split at h
    · obtain ⟨rfl, rfl⟩ := by simpa using h
      simp
    · cases hg : goT l with
      | none => rw [hg] at h; simp at h
      | some x =>
        rw [hg] at h
        obtain ⟨rfl, rfl⟩ := by simpa using h
        rw [goT_split (p := x.1) (r := x.2) hg]; simp
theorem goT_num (n : Nat) (s : List UInt8) : goT (numT n ++ s) = some (numT n, s) := by
  induction n using Nat.strongRecOn with
  | _ n ih =>
    by_cases h : n < 128
    · rw [num_small h, List.singleton_append, goT_one (by rw [u8_nat (by omega)]; exact h)]
    · rw [num_great h, List.cons_append, goT, if_neg (by rw [u8_nat (by omega)]; omega), ih (n / 128) (by omega)]; rfl
theorem first_num {n : Nat} (hn : n < 18446744073709551616) (s : List UInt8) : firstT (numT n ++ s) = some (n, s) := by
  unfold firstT; rw [goT_num]; simp [numB_num, val_num, hn]
theorem first_some {l r : List UInt8} {n : Nat} (h : firstT l = some (n, r)) : l = numT n ++ r ∧ n < 18446744073709551616 := by
  unfold firstT at h
  cases hg : goT l with
  | none => rw [hg] at h; simp at h
  | some x =>
    obtain ⟨p, q⟩ := x
    rw [hg] at h
    simp only at h
    split at h
    · rename_i hc
      obtain ⟨rfl, rfl⟩ := by simpa using h
      exact ⟨by rw [numB_val p hc.1]; exact goT_split hg, hc.2⟩
    · cases h
/-- The tenth byte is above 1. -/
theorem first_ten {a t : List UInt8} {c : UInt8} (h : Great a) (ha : a.length = 9) (hc : 1 < c.toNat) : firstT (a ++ c :: t) = none := by
  cases hf : firstT (a ++ c :: t) with
  | none => rfl
  | some x =>
    exfalso
    obtain ⟨n, r⟩ := x
    obtain ⟨e, hn⟩ := first_some hf
    have hg := goT_num n r
    rw [← e, goT_great _ h] at hg
    cases hq : goT (c :: t) with
    | none => rw [hq] at hg; simp at hg
    | some y =>
      rw [hq] at hg
      have hg1 : a ++ y.1 = numT n := by simp at hg; exact hg.1
      have hs := goT_split (p := y.1) (r := y.2) hq
      have hl := num_len10 hn
      rw [← hg1] at hl
      have hv := val_num n
      rw [← hg1, valT_append, ha] at hv
      rcases hy : y.1 with _ | ⟨d, z⟩
      · rw [hy] at hg1
        have := numB_num n
        rw [← hg1, List.append_nil] at this
        have hgn := goT_num n []
        rw [← hg1, List.append_nil, List.append_nil] at hgn
        have hga := goT_great [] h
        rw [List.append_nil] at hga
        rw [hga] at hgn
        simp [goT] at hgn
      · rw [hy] at hl hs hv
        obtain rfl : z = [] := List.eq_nil_of_length_eq_zero (by simp at hl; omega)
        simp at hs
        obtain ⟨rfl, _⟩ := hs
        rw [goT] at hq
        split at hq
        · simp at hv; omega
        · rename_i hd
          cases hz : goT t with
          | none => rw [hz] at hq; simp at hq
          | some u =>
            rw [hz] at hq
            have : c :: u.1 = y.1 := by simp at hq; rw [← hq]
            rw [hy] at this
            have hu : u.1 = [] := by simpa using this
            cases t with
            | nil => simp [goT] at hz
            | cons t0 t1 =>
              rw [goT] at hz
              split at hz
              · rw [← Option.some.inj hz] at hu; simp at hu
              · cases hz2 : goT t1 with
                | none => rw [hz2] at hz; simp at hz
                | some k => rw [hz2] at hz; rw [← Option.some.inj hz] at hu; simp at hu
theorem numB_zero : ∀ {a : List UInt8} {c : UInt8}, 0 < a.length → c.toNat = 0 → numB (a ++ [c]) = false
  | [], _, h, _ => absurd h (by simp)
  | [b], c, _, hc => by simp [numB, hc]
  | b :: d :: a, c, _, hc => by
    have ih := numB_zero (a := d :: a) (c := c) (by simp) hc
    simp only [List.cons_append] at ih ⊢
    simp [numB, ih]
theorem first_zero {a t : List UInt8} {c : UInt8} (h : Great a) (ha : 0 < a.length) (hc : c.toNat = 0) : firstT (a ++ c :: t) = none := by
  unfold firstT
  rw [goT_great _ h, goT_one (by omega)]
  simp [numB_zero ha hc]
theorem numB_great : ∀ {a : List UInt8} {c : UInt8}, Great a → c.toNat < 128 → (0 < a.length → c.toNat ≠ 0) → numB (a ++ [c]) = true
  | [], c, _, hc, _ => by simp [numB, hc]
  | [b], c, h, hc, h0 => by
    have := h b (by simp)
    have h1 := h0 (by simp)
    simp [numB, hc, this, h1]
  | b :: d :: a, c, h, hc, h0 => by
    have hb := h b (by simp)
    have ih := numB_great (a := d :: a) (c := c) (fun x hx => h x (by simp [hx])) hc fun _ => h0 (by simp)
    simp only [List.cons_append] at ih ⊢
    simp [numB, ih, hb]
theorem first_told {a t : List UInt8} {c : UInt8} (h : Great a) (ha : a.length ≤ 9) (hc : c.toNat < 128) (h0 : 0 < a.length → c.toNat ≠ 0) (h1 : a.length = 9 → c.toNat ≤ 1) : firstT (a ++ c :: t) = some (valT (a ++ [c]), t) := by
  have hv : valT (a ++ [c]) < 18446744073709551616 := by
    rw [valT_append]
    have hl := valT_lt a
    simp only [valT_cons, valT_nil]
    by_cases h9 : a.length = 9
    · have := h1 h9
      rw [h9] at hl ⊢
      omega
    · have hm : 128 ^ a.length ≤ 128 ^ 8 := Nat.pow_le_pow_right (by omega) (by omega)
      have hk : 128 ^ a.length * (c.toNat % 128 + 128 * 0) ≤ 128 ^ 8 * 127 := Nat.mul_le_mul hm (by omega)
      omega
  unfold firstT
  rw [goT_great _ h, goT_one hc]
  simp [numB_great h hc h0, hv]
/-- What a reader has left: none, if it is bad. -/
def rdNum (most : Nat) : Option (List UInt8) → Nat × Option (List UInt8)
  | none => (0, none)
  | some l => match firstT l with
    | none => (0, none)
    | some (n, r) => if n ≤ most then (n, some r) else (0, none)
def rdSig (r : Option (List UInt8)) : Int × Option (List UInt8) := (zag (rdNum 18446744073709551615 r).1, (rdNum 18446744073709551615 r).2)
def rdText (most : Int) (r : Option (List UInt8)) : List UInt8 × Option (List UInt8) := match (rdNum most.toNat r).2 with
  | none => ([], none)
  | some l => if (rdNum most.toNat r).1 ≤ l.length then (l.take (rdNum most.toNat r).1, some (l.drop (rdNum most.toNat r).1)) else ([], none)
def rdFlag (r : Option (List UInt8)) : Bool × Option (List UInt8) := (decide ((rdNum 1 r).1 = 1), (rdNum 1 r).2)
theorem rdNum_lt (most : Nat) (r : Option (List UInt8)) : (rdNum most r).1 < 18446744073709551616 := by
  unfold rdNum
  split
  · simp
  · split
    · simp
    · rename_i h
      split
      · exact (first_some h).2
      · simp
theorem rdNum_put {n most : Nat} (hn : n < 18446744073709551616) (hm : n ≤ most) (s : List UInt8) : rdNum most (some (numT n ++ s)) = (n, some s) := by
  unfold rdNum; simp only [first_num hn]; simp [hm]
theorem rdSig_put {n : Int} (h1 : -9223372036854775808 ≤ n) (h2 : n ≤ 9223372036854775807) (s : List UInt8) : rdSig (some (numT (zig n) ++ s)) = (n, some s) := by
  have hz : zig n < 18446744073709551616 := by unfold zig; split <;> omega
  unfold rdSig; rw [rdNum_put hz (by omega)]; simp [zag_zig]
theorem rdText_put {l : List UInt8} {most : Int} (hl : l.length < 18446744073709551616) (hm : (l.length : Int) ≤ most) (s : List UInt8) : rdText most (some (textT l ++ s)) = (l, some s) := by
  unfold rdText textT
  rw [List.append_assoc, rdNum_put hl (by omega)]
  simp
theorem rdFlag_put (b : Bool) (s : List UInt8) : rdFlag (some (flagT b ++ s)) = (b, some s) := by
  unfold rdFlag
  rw [flag_num, rdNum_put (by split <;> omega) (by split <;> omega)]
  cases b <;> simp
end Pk
