import Derived.Test.YtdhinjbkfffpeaaGreatYFMath
/- Plain mathematics of numbers as bytes of seven bits. -/
section
namespace Pk
open Fr
def numT (n : Nat) : List UInt8 := if n < 128 then [u8 n] else u8 (128 + n % 128) :: numT (n / 128)
termination_by n
decreasing_by omega
theorem num_small {n : Nat} (h : n < 128) : numT n = [u8 n] := by rw [numT, if_pos h]
theorem num_great {n : Nat} (h : ¬ n < 128) : numT n = u8 (128 + n % 128) :: numT (n / 128) := by rw [numT, if_neg h]
theorem num_len (k : Nat) : ∀ n, n < 128 ^ (k + 1) → (numT n).length ≤ k + 1 := by
  induction k with
  | zero => intro n h; rw [num_small (by simpa using h)]; simp
  | succ k ih =>
    intro n h
    by_cases h1 : n < 128
    · rw [num_small h1]; simp
    · rw [num_great h1]
      have := ih (n / 128) (by rw [Nat.pow_succ] at h; exact Nat.div_lt_of_lt_mul (by rw [Nat.mul_comm]; exact h))
      simp; omega
theorem num_len10 {n : Nat} (h : n < 18446744073709551616) : (numT n).length ≤ 10 := num_len 9 n (Nat.lt_of_lt_of_le h (by decide))
def zig (n : Int) : Nat := if 0 ≤ n then 2 * n.toNat else 2 * (-(n + 1)).toNat + 1
def textT (l : List UInt8) : List UInt8 := numT l.length ++ l
def flagT (b : Bool) : List UInt8 := if b then [1] else [0]
end Pk
end
section
namespace Pk
open Fr
theorem u8_toNat (b : UInt8) : u8 b.toNat = b := by unfold u8; exact UInt8.ofNat_toNat
def valT : List UInt8 → Nat
  | [] => 0
  | b :: l => b.toNat % 128 + 128 * valT l
@[simp] theorem valT_nil : valT [] = 0 := rfl
@[simp] theorem valT_cons (b : UInt8) (l : List UInt8) : valT (b :: l) = b.toNat % 128 + 128 * valT l := rfl
theorem valT_append (a b : List UInt8) : valT (a ++ b) = valT a + 128 ^ a.length * valT b := by
  induction a with
  | nil => simp
  | cons x a ih =>
    simp only [List.cons_append, valT_cons, List.length_cons, ih, Nat.pow_succ, Nat.mul_add]
    rw [Nat.add_assoc, Nat.mul_comm (128 ^ a.length) 128, Nat.mul_assoc]
theorem valT_lt (l : List UInt8) : valT l < 128 ^ l.length := by
  induction l with
  | nil => simp
  | cons x l ih => simp only [valT_cons, List.length_cons, Nat.pow_succ]; have := Nat.mod_lt x.toNat (show 0 < 128 by omega); omega
theorem num_ne (n : Nat) : numT n ≠ [] := by
  by_cases h : n < 128
  · rw [num_small h]; simp
  · rw [num_great h]; simp
theorem val_num (n : Nat) : valT (numT n) = n := by
  induction n using Nat.strongRecOn with
  | _ n ih =>
    by_cases h : n < 128
    · rw [num_small h]; simp [u8_nat (show n < 256 by omega)]; omega
    · rw [num_great h, valT_cons, ih (n / 128) (by omega), u8_nat (by omega)]; omega
def numB : List UInt8 → Bool
  | [] => false
  | [b] => decide (b.toNat < 128)
  | b :: c :: l => decide (128 ≤ b.toNat) && numB (c :: l) && !(l.isEmpty && decide (c.toNat = 0))
theorem numB_num (n : Nat) : numB (numT n) = true := by
  induction n using Nat.strongRecOn with
  | _ n ih =>
    by_cases h : n < 128
    · rw [num_small h]; simp [numB, u8_nat (show n < 256 by omega), h]
    · have := ih (n / 128) (by omega)
      rw [num_great h]
      by_cases h2 : n / 128 < 128
      · rw [num_small h2] at this ⊢
        have h3 : n / 128 ≠ 0 := by omega
        simp [numB, u8_nat (show n / 128 < 256 by omega), u8_nat (show 128 + n % 128 < 256 by omega), h2, h3]
      · rw [num_great h2] at this ⊢
        have hne := num_ne (n / 128 / 128)
        obtain ⟨x, y, hxy⟩ : ∃ x y, numT (n / 128 / 128) = x :: y := by
          cases hc : numT (n / 128 / 128) with
          | nil => exact absurd hc hne
          | cons x y => exact ⟨x, y, rfl⟩
        rw [hxy] at this ⊢
        simp only [numB] at this ⊢
        simp_all [u8_nat (show 128 + n % 128 < 256 by omega)]
theorem numB_val : ∀ l : List UInt8, numB l = true → numT (valT l) = l
  | [], h => by simp [numB] at h
  | [b], h => by
      have hb : b.toNat < 128 := by simpa [numB] using h
      simp only [valT_cons, valT_nil]
      rw [num_small (by omega)]
      congr 1
      rw [show b.toNat % 128 + 128 * 0 = b.toNat by omega]; exact u8_toNat b
  | b :: c :: l, h => by
      simp only [numB, Bool.and_eq_true, decide_eq_true_eq] at h
      have ih := numB_val (c :: l) h.1.2
      have hb := b.toNat_lt
      have h0 : valT (c :: l) ≠ 0 := by
        intro h0
        have : numT 0 = c :: l := by rw [← h0]; exact ih
        rw [num_small (by omega)] at this
        injection this with h3 h4
        subst h4
        subst h3
        simp [u8_nat (show 0 < 256 by omega)] at h
      have h1 : ¬ valT (b :: c :: l) < 128 := by rw [valT_cons]; omega
      rw [num_great h1]
      congr 1
      · rw [valT_cons, show 128 + (b.toNat % 128 + 128 * valT (c :: l)) % 128 = b.toNat by omega]; exact u8_toNat b
      · rw [valT_cons, show (b.toNat % 128 + 128 * valT (c :: l)) / 128 = valT (c :: l) by omega]; exact ih
theorem flag_num (b : Bool) : flagT b = numT (if b then 1 else 0) := by cases b <;> (rw [num_small (by simp)]; rfl)
def zag (n : Nat) : Int := if n % 2 = 1 then -((n / 2 : Nat) : Int) - 1 else (n / 2 : Nat)
theorem zag_zig (n : Int) : zag (zig n) = n := by unfold zag zig; split <;> split <;> omega
theorem zig_zag (n : Nat) : zig (zag n) = n := by unfold zag zig; split <;> split <;> omega
end Pk
end
section
namespace Pk
open Fr
def goT : List UInt8 → Option (List UInt8 × List UInt8)
  | [] => none
  | b :: l => if b.toNat < 128 then some ([b], l) else (goT l).map fun x => (b :: x.1, x.2)
def firstT (l : List UInt8) : Option (Nat × List UInt8) := match goT l with
  | none => none
  | some (p, r) => if numB p = true ∧ valT p < 18446744073709551616 then some (valT p, r) else none
def Great (a : List UInt8) : Prop := ∀ b ∈ a, 128 ≤ b.toNat
theorem Great.nil : Great [] := fun _ h => by cases h
theorem Great.snoc {a : List UInt8} {c : UInt8} (h : Great a) (hc : 128 ≤ c.toNat) : Great (a ++ [c]) := fun b hb => by
  rcases List.mem_append.1 hb with hb | hb
  · exact h b hb
  · obtain rfl : b = c := by simpa using hb
    exact hc
theorem goT_great : ∀ {a : List UInt8} (t : List UInt8), Great a → goT (a ++ t) = (goT t).map fun x => (a ++ x.1, x.2)
  | [], t, _ => by cases h : goT t <;> simp [h]
  | b :: a, t, h => by
    have hb := h b (by simp)
    have ih := goT_great (a := a) t fun x hx => h x (by simp [hx])
    rw [List.cons_append, goT, if_neg (by omega), ih]
    cases goT t <;> simp
theorem goT_one {c : UInt8} {t : List UInt8} (h : c.toNat < 128) : goT (c :: t) = some ([c], t) := by rw [goT, if_pos h]
theorem first_none {a : List UInt8} (h : Great a) : firstT a = none := by
  have := goT_great [] h
  rw [List.append_nil] at this
  unfold firstT; rw [this]; simp [goT]
theorem goT_split : ∀ {l p r : List UInt8}, goT l = some (p, r) → l = p ++ r
  | [], p, r, h => by simp [goT] at h
  | b :: l, p, r, h => by
    rw [goT] at h
    split at h
    · obtain ⟨rfl, rfl⟩ := by simpa using h
      simp
    · cases hg : goT l with
      | none => rw [hg] at h; simp at h
      | some x =>
        rw [hg] at h
        obtain ⟨rfl, rfl⟩ := by simpa using h
        rw [goT_split (p := x.1) (r := x.2) hg]; simp
theorem goT_num (n : Nat) (s : List UInt8) : goT (numT n ++ s) = some (numT n, s) := by
  induction n using Nat.strongRecOn with
  | _ n ih =>
    by_cases h : n < 128
    · rw [num_small h, List.singleton_append, goT_one (by rw [u8_nat (by omega)]; exact h)]
    · rw [num_great h, List.cons_append, goT, if_neg (by rw [u8_nat (by omega)]; omega), ih (n / 128) (by omega)]; rfl
theorem first_num {n : Nat} (hn : n < 18446744073709551616) (s : List UInt8) : firstT (numT n ++ s) = some (n, s) := by
  unfold firstT; rw [goT_num]; simp [numB_num, val_num, hn]
theorem first_some {l r : List UInt8} {n : Nat} (h : firstT l = some (n, r)) : l = numT n ++ r ∧ n < 18446744073709551616 := by
  unfold firstT at h
  cases hg : goT l with
  | none => rw [hg] at h; simp at h
  | some x =>
    obtain ⟨p, q⟩ := x
    rw [hg] at h
    simp only at h
    split at h
    · rename_i hc
      obtain ⟨rfl, rfl⟩ := by simpa using h
      exact ⟨by rw [numB_val p hc.1]; exact goT_split hg, hc.2⟩
    · cases h
theorem first_ten {a t : List UInt8} {c : UInt8} (h : Great a) (ha : a.length = 9) (hc : 1 < c.toNat) : firstT (a ++ c :: t) = none := by
  cases hf : firstT (a ++ c :: t) with
  | none => rfl
  | some x =>
    exfalso
    obtain ⟨n, r⟩ := x
    obtain ⟨e, hn⟩ := first_some hf
    have hg := goT_num n r
    rw [← e, goT_great _ h] at hg
    cases hq : goT (c :: t) with
    | none => rw [hq] at hg; simp at hg
    | some y =>
      rw [hq] at hg
      have hg1 : a ++ y.1 = numT n := by simp at hg; exact hg.1
      have hs := goT_split (p := y.1) (r := y.2) hq
      have hl := num_len10 hn
      rw [← hg1] at hl
      have hv := val_num n
      rw [← hg1, valT_append, ha] at hv
      rcases hy : y.1 with _ | ⟨d, z⟩
      · rw [hy] at hg1
        have := numB_num n
        rw [← hg1, List.append_nil] at this
        have hgn := goT_num n []
        rw [← hg1, List.append_nil, List.append_nil] at hgn
        have hga := goT_great [] h
        rw [List.append_nil] at hga
        rw [hga] at hgn
        simp [goT] at hgn
      · rw [hy] at hl hs hv
        obtain rfl : z = [] := List.eq_nil_of_length_eq_zero (by simp at hl; omega)
        simp at hs
        obtain ⟨rfl, _⟩ := hs
        rw [goT] at hq
        split at hq
        · simp at hv; omega
        · rename_i hd
          cases hz : goT t with
          | none => rw [hz] at hq; simp at hq
          | some u =>
            rw [hz] at hq
            have : c :: u.1 = y.1 := by simp at hq; rw [← hq]
            rw [hy] at this
            have hu : u.1 = [] := by simpa using this
            cases t with
            | nil => simp [goT] at hz
            | cons t0 t1 =>
              rw [goT] at hz
              split at hz
              · rw [← Option.some.inj hz] at hu; simp at hu
              · cases hz2 : goT t1 with
                | none => rw [hz2] at hz; simp at hz
                | some k => rw [hz2] at hz; rw [← Option.some.inj hz] at hu; simp at hu
theorem numB_zero : ∀ {a : List UInt8} {c : UInt8}, 0 < a.length → c.toNat = 0 → numB (a ++ [c]) = false
  | [], _, h, _ => absurd h (by simp)
  | [b], c, _, hc => by simp [numB, hc]
  | b :: d :: a, c, _, hc => by
    have ih := numB_zero (a := d :: a) (c := c) (by simp) hc
    simp only [List.cons_append] at ih ⊢
    simp [numB, ih]
theorem first_zero {a t : List UInt8} {c : UInt8} (h : Great a) (ha : 0 < a.length) (hc : c.toNat = 0) : firstT (a ++ c :: t) = none := by
  unfold firstT
  rw [goT_great _ h, goT_one (by omega)]
  simp [numB_zero ha hc]
theorem numB_great : ∀ {a : List UInt8} {c : UInt8}, Great a → c.toNat < 128 → (0 < a.length → c.toNat ≠ 0) → numB (a ++ [c]) = true
  | [], c, _, hc, _ => by simp [numB, hc]
  | [b], c, h, hc, h0 => by
    have := h b (by simp)
    have h1 := h0 (by simp)
    simp [numB, hc, this, h1]
  | b :: d :: a, c, h, hc, h0 => by
    have hb := h b (by simp)
    have ih := numB_great (a := d :: a) (c := c) (fun x hx => h x (by simp [hx])) hc fun _ => h0 (by simp)
    simp only [List.cons_append] at ih ⊢
    simp [numB, ih, hb]
theorem first_told {a t : List UInt8} {c : UInt8} (h : Great a) (ha : a.length ≤ 9) (hc : c.toNat < 128) (h0 : 0 < a.length → c.toNat ≠ 0) (h1 : a.length = 9 → c.toNat ≤ 1) : firstT (a ++ c :: t) = some (valT (a ++ [c]), t) := by
  have hv : valT (a ++ [c]) < 18446744073709551616 := by
    rw [valT_append]
    have hl := valT_lt a
    simp only [valT_cons, valT_nil]
    by_cases h9 : a.length = 9
    · have := h1 h9
      rw [h9] at hl ⊢
      omega
    · have hm : 128 ^ a.length ≤ 128 ^ 8 := Nat.pow_le_pow_right (by omega) (by omega)
      have hk : 128 ^ a.length * (c.toNat % 128 + 128 * 0) ≤ 128 ^ 8 * 127 := Nat.mul_le_mul hm (by omega)
      omega
  unfold firstT
  rw [goT_great _ h, goT_one hc]
  simp [numB_great h hc h0, hv]
def rdNum (most : Nat) : Option (List UInt8) → Nat × Option (List UInt8)
  | none => (0, none)
  | some l => match firstT l with
    | none => (0, none)
    | some (n, r) => if n ≤ most then (n, some r) else (0, none)
def rdSig (r : Option (List UInt8)) : Int × Option (List UInt8) := (zag (rdNum 18446744073709551615 r).1, (rdNum 18446744073709551615 r).2)
def rdText (most : Int) (r : Option (List UInt8)) : List UInt8 × Option (List UInt8) := match (rdNum most.toNat r).2 with
  | none => ([], none)
  | some l => if (rdNum most.toNat r).1 ≤ l.length then (l.take (rdNum most.toNat r).1, some (l.drop (rdNum most.toNat r).1)) else ([], none)
def rdFlag (r : Option (List UInt8)) : Bool × Option (List UInt8) := (decide ((rdNum 1 r).1 = 1), (rdNum 1 r).2)
theorem rdNum_lt (most : Nat) (r : Option (List UInt8)) : (rdNum most r).1 < 18446744073709551616 := by
  unfold rdNum
  split
  · simp
  · split
    · simp
    · rename_i h
      split
      · exact (first_some h).2
      · simp
theorem rdNum_put {n most : Nat} (hn : n < 18446744073709551616) (hm : n ≤ most) (s : List UInt8) : rdNum most (some (numT n ++ s)) = (n, some s) := by
  unfold rdNum; simp only [first_num hn]; simp [hm]
theorem rdSig_put {n : Int} (h1 : -9223372036854775808 ≤ n) (h2 : n ≤ 9223372036854775807) (s : List UInt8) : rdSig (some (numT (zig n) ++ s)) = (n, some s) := by
  have hz : zig n < 18446744073709551616 := by unfold zig; split <;> omega
  unfold rdSig; rw [rdNum_put hz (by omega)]; simp [zag_zig]
theorem rdText_put {l : List UInt8} {most : Int} (hl : l.length < 18446744073709551616) (hm : (l.length : Int) ≤ most) (s : List UInt8) : rdText most (some (textT l ++ s)) = (l, some s) := by
  unfold rdText textT
  rw [List.append_assoc, rdNum_put hl (by omega)]
  simp
theorem rdFlag_put (b : Bool) (s : List UInt8) : rdFlag (some (flagT b ++ s)) = (b, some s) := by
  unfold rdFlag
  rw [flag_num, rdNum_put (by split <;> omega) (by split <;> omega)]
  cases b <;> simp
end Pk
end
section
namespace Pk
open Fr
abbrev Rd := Option (List UInt8)
structure Cod {α : Type} (txt : α → List UInt8) (ok : α → Prop) (rd : Rd → α × Rd) : Prop where
  put : ∀ a s, ok a → rd (some (txt a ++ s)) = (a, some s)
  get : ∀ l s, (rd (some l)).2 = some s → l = txt (rd (some l)).1 ++ s ∧ ok (rd (some l)).1
  bad : (rd none).2 = none
section
variable {α β : Type} {txt : α → List UInt8} {ok : α → Prop} {rd : Rd → α × Rd}
theorem Cod.inj (c : Cod txt ok rd) {a b : α} (ha : ok a) (hb : ok b) {r s : List UInt8} (h : txt a ++ r = txt b ++ s) : a = b ∧ r = s := by
  have h1 := c.put a r ha
  rw [h, c.put b s hb] at h1
  simpa [eq_comm] using h1
theorem Cod.pre (c : Cod txt ok rd) {a : α} (ha : ok a) {p q : List UInt8} (h : txt a = p ++ q) (hp : (rd (some p)).2 = some []) : q = [] := by
  obtain ⟨e, ho⟩ := c.get p [] hp
  rw [List.append_nil] at e
  have := c.inj ha ho (r := []) (s := q) (by rw [List.append_nil, h, ← e])
  exact this.2.symm
theorem Cod.more (c : Cod txt ok rd) {a : α} (ha : ok a) (s : List UInt8) : (rd (some (txt a ++ s))).2 = some [] ↔ s = [] := by
  rw [c.put a s ha]; simp
def rdTwo (rd : Rd → α × Rd) (re : α → Rd → β × Rd) (r : Rd) : (α × β) × Rd := (((rd r).1, (re (rd r).1 (rd r).2).1), (re (rd r).1 (rd r).2).2)
theorem Cod.two {txu : α → β → List UInt8} {oku : α → β → Prop} {re : α → Rd → β × Rd} (c : Cod txt ok rd) (d : ∀ a, ok a → Cod (txu a) (oku a) (re a)) (db : ∀ a, (re a none).2 = none) :
    Cod (fun x : α × β => txt x.1 ++ txu x.1 x.2) (fun x => ok x.1 ∧ oku x.1 x.2) (rdTwo rd re) := by
  refine ⟨fun x s h => ?_, fun l s h => ?_, ?_⟩
  · unfold rdTwo
    simp only [List.append_assoc]
    rw [c.put x.1 _ h.1]
    simp only
    rw [(d x.1 h.1).put x.2 s h.2]
  · unfold rdTwo at h ⊢
    simp only at h ⊢
    cases e : (rd (some l)).2 with
    | none => rw [e, db] at h; cases h
    | some l1 =>
      obtain ⟨e1, o1⟩ := c.get l l1 e
      rw [e] at h
      obtain ⟨e2, o2⟩ := (d _ o1).get l1 s h
      refine ⟨?_, o1, o2⟩
      rw [List.append_assoc, ← e2]; exact e1
  · unfold rdTwo; simp only [c.bad, db]
theorem Cod.as {f : α → β} {g : β → α} (c : Cod txt ok rd) (fg : ∀ b, f (g b) = b) (gf : ∀ a, ok a → g (f a) = a) : Cod (fun b => txt (g b)) (fun b => ok (g b)) (fun r => (f (rd r).1, (rd r).2)) := by
  refine ⟨fun b s h => ?_, fun l s h => ?_, c.bad⟩
  · rw [c.put _ s h]; simp only [fg]
  · obtain ⟨e, o⟩ := c.get l s h
    simp only [gf _ o]; exact ⟨e, o⟩
def rdN (rd : Rd → α × Rd) : Nat → Rd → List α × Rd
  | 0, r => ([], r)
  | n + 1, r => ((rd r).1 :: (rdN rd n (rd r).2).1, (rdN rd n (rd r).2).2)
theorem rdN_bad (h : (rd none).2 = none) : ∀ n, (rdN rd n none).2 = none
  | 0 => rfl
  | n + 1 => by simp only [rdN, h]; exact rdN_bad h n
theorem rdN_len : ∀ n r, (rdN rd n r).1.length = n
  | 0, _ => rfl
  | n + 1, r => by simp only [rdN, List.length_cons, rdN_len n]
theorem rdN_snoc : ∀ n r, rdN rd (n + 1) r = ((rdN rd n r).1 ++ [(rd (rdN rd n r).2).1], (rd (rdN rd n r).2).2)
  | 0, _ => rfl
  | n + 1, r => by
    have ih := rdN_snoc n (rd r).2
    rw [rdN, ih]; rfl
theorem Cod.rows (c : Cod txt ok rd) : ∀ n, Cod (fun l : List α => l.flatMap txt) (fun l => l.length = n ∧ ∀ x ∈ l, ok x) (rdN rd n)
  | 0 => by
    refine ⟨fun l s h => ?_, fun l s h => ?_, rfl⟩
    · obtain rfl : l = [] := List.length_eq_zero_iff.1 h.1
      rfl
    · simp only [rdN] at h ⊢
      cases h
      exact ⟨rfl, rfl, fun x hx => by cases hx⟩
  | n + 1 => by
    have ih := Cod.rows c n
    refine ⟨fun l s h => ?_, fun l s h => ?_, rdN_bad c.bad _⟩
    · obtain ⟨h1, h2⟩ := h
      cases l with
      | nil => simp at h1
      | cons x r =>
        simp only [rdN, List.flatMap_cons, List.append_assoc]
        rw [c.put x _ (h2 x (List.mem_cons_self ..))]
        simp only
        rw [ih.put r s ⟨by simpa using h1, fun y hy => h2 y (List.mem_cons_of_mem _ hy)⟩]
    · simp only [rdN] at h ⊢
      cases e : (rd (some l)).2 with
      | none => rw [e, rdN_bad c.bad] at h; cases h
      | some l1 =>
        obtain ⟨e1, o1⟩ := c.get l l1 e
        rw [e] at h
        obtain ⟨e2, o2, o3⟩ := ih.get l1 s h
        refine ⟨?_, by simpa using rdN_len n _, ?_⟩
        · simp only [List.flatMap_cons, List.append_assoc]
          rw [← e2]; exact e1
        · intro x hx
          rcases List.mem_cons.1 hx with rfl | hx
          · exact o1
          · exact o3 x hx
end
theorem cod_num (most : Nat) (hm : most < 18446744073709551616) : Cod numT (fun n => n ≤ most) (rdNum most) := by
  refine ⟨fun n s h => rdNum_put (by omega) h s, fun l s h => ?_, rfl⟩
  unfold rdNum at h ⊢
  cases e : firstT l with
  | none => simp [e] at h
  | some x =>
    obtain ⟨n, t⟩ := x
    simp only [e] at h ⊢
    obtain ⟨e1, _⟩ := first_some e
    by_cases hn : n ≤ most
    · simp only [hn, if_true] at h ⊢
      cases h
      exact ⟨e1, trivial⟩
    · simp only [hn, if_false] at h; cases h
theorem cod_row {α : Type} {txt : α → List UInt8} {ok : α → Prop} {rd : Rd → α × Rd} (c : Cod txt ok rd) (most : Nat) (hm : most < 18446744073709551616) :
    Cod (fun l : List α => numT l.length ++ l.flatMap txt) (fun l => l.length ≤ most ∧ ∀ x ∈ l, ok x) (fun r => rdN rd (rdNum most r).1 (rdNum most r).2) := by
  have h := Cod.two (cod_num most hm) (txu := fun _ (l : List α) => l.flatMap txt) (oku := fun n l => l.length = n ∧ ∀ x ∈ l, ok x) (re := fun n => rdN rd n) (fun n _ => c.rows n) (fun n => rdN_bad c.bad n)
  have h2 := h.as (f := fun x => x.2) (g := fun l => (l.length, l)) (fun _ => rfl) (fun a ha => by obtain ⟨n, l⟩ := a; simp only at ha ⊢; rw [ha.2.1])
  refine ⟨fun l s hl => ?_, fun l s hl => ?_, h2.bad⟩
  · exact h2.put l s ⟨hl.1, rfl, hl.2⟩
  · obtain ⟨a, b⟩ := h2.get l s hl
    exact ⟨a, b.1, b.2.2⟩
theorem rdNum_bad (most : Nat) : (rdNum most none).2 = none := rfl
theorem cod_sig : Cod (fun n : Int => numT (zig n)) (fun n => -9223372036854775808 ≤ n ∧ n ≤ 9223372036854775807) rdSig := by
  refine ⟨fun n s h => rdSig_put h.1 h.2 s, fun l s h => ?_, rfl⟩
  unfold rdSig at h ⊢
  simp only at h ⊢
  obtain ⟨e, o⟩ := (cod_num 18446744073709551615 (by omega)).get l s h
  refine ⟨by rw [zig_zag]; exact e, ?_⟩
  unfold zag
  split <;> omega
theorem cod_flag : Cod flagT (fun _ => True) rdFlag := by
  refine ⟨fun b s _ => rdFlag_put b s, fun l s h => ?_, rfl⟩
  unfold rdFlag at h ⊢
  simp only at h ⊢
  obtain ⟨e, o⟩ := (cod_num 1 (by omega)).get l s h
  refine ⟨?_, trivial⟩
  rw [flag_num]
  have : (if decide ((rdNum 1 (some l)).1 = 1) = true then 1 else 0) = (rdNum 1 (some l)).1 := by
    by_cases h1 : (rdNum 1 (some l)).1 = 1
    · simp [h1]
    · have : (rdNum 1 (some l)).1 = 0 := by omega
      simp [this]
  rw [this]; exact e
theorem cod_text (most : Nat) (hm : most < 18446744073709551616) : Cod textT (fun l => l.length ≤ most) (rdText (most : Int)) := by
  refine ⟨fun l s h => rdText_put (by omega) (by omega) s, fun l s h => ?_, ?_⟩
  · have c := (cod_num most hm).get l
    unfold rdText at h ⊢
    rw [Int.toNat_natCast] at h ⊢
    cases e : (rdNum most (some l)).2 with
    | none => simp [e] at h
    | some l1 =>
      obtain ⟨e1, o1⟩ := c l1 e
      simp only [e] at h ⊢
      by_cases hn : (rdNum most (some l)).1 ≤ l1.length
      · simp only [hn, if_true] at h ⊢
        cases h
        have hl : (l1.take (rdNum most (some l)).1).length = (rdNum most (some l)).1 := by rw [List.length_take]; omega
        refine ⟨?_, by rw [hl]; exact o1⟩
        unfold textT
        rw [hl, List.append_assoc, List.take_append_drop]; exact e1
      · simp only [hn, if_false] at h; cases h
  · unfold rdText; simp [rdNum_bad]
def rdIf {α : Type} (p : α → Bool) (rd : Rd → α × Rd) (r : Rd) : α × Rd := ((rd r).1, if p (rd r).1 then (rd r).2 else none)
theorem Cod.cut {α : Type} {txt : α → List UInt8} {ok : α → Prop} {rd : Rd → α × Rd} (c : Cod txt ok rd) (p : α → Bool) : Cod txt (fun a => ok a ∧ p a = true) (rdIf p rd) := by
  refine ⟨fun a s h => ?_, fun l s h => ?_, ?_⟩
  · unfold rdIf; rw [c.put a s h.1]; simp [h.2]
  · unfold rdIf at h ⊢
    simp only at h ⊢
    by_cases hp : p (rd (some l)).1 = true
    · rw [if_pos hp] at h
      exact ⟨(c.get l s h).1, (c.get l s h).2, hp⟩
    · rw [if_neg hp] at h; cases h
  · unfold rdIf; simp only [c.bad]; split <;> rfl
end Pk
end
