/- Minutes of a week: a shift has as many in each. No text of the program is read here. -/
import Derived.Test.YtdpgmhjhmccfnaaHMath4
import Derived.Test.YtdpgmhjhmccfnaaSMath2
namespace Sp
theorem len_app (a b : List Spn) : len (a ++ b) = len a + len b := by
  induction a with
  | nil => simp [len]
  | cons s r ih => simp [len, ih]; omega
theorem len_take {l : List Spn} {k : Nat} {s : Spn} (h : l[k]? = some s) : len (l.take (k + 1)) = len (l.take k) + (s.2 - s.1) := by
  rw [List.take_add_one, h, len_app]; simp [len]
theorem len_pos {l : List Spn} (h : ∀ s ∈ l, s.1 < s.2) : 0 ≤ len l := by
  induction l with
  | nil => exact Int.le_refl _
  | cons s r ih =>
    have h1 := h s List.mem_cons_self
    have h2 := ih fun t ht => h t (List.mem_cons_of_mem _ ht)
    unfold len; omega
theorem len_part {l : List Spn} (h : ∀ s ∈ l, s.1 < s.2) (k : Nat) : 0 ≤ len (l.take k) ∧ len (l.take k) ≤ len l := by
  have h1 := len_pos (l := l.take k) fun s hs => h s (List.mem_of_mem_take hs)
  have h2 := len_pos (l := l.drop k) fun s hs => h s (List.mem_of_mem_drop hs)
  have h3 := len_app (l.take k) (l.drop k)
  rw [List.take_append_drop] at h3
  exact ⟨h1, by omega⟩
theorem cnt_move (p : Int → Bool) (a b : Int) (n : Nat) : cntN (fun x => p (x + b)) a n = cntN p (a + b) n := by
  induction n with
  | zero => rfl
  | succ n ih =>
    unfold cntN
    rw [ih, show a + (n : Int) + b = a + b + n by omega]
theorem cnt_le (p : Int → Bool) (a : Int) (n : Nat) : cntN p a n ≤ n := by
  induction n with
  | zero => exact Nat.le_refl _
  | succ n ih => unfold cntN; split <;> omega
/-- Of a thing that comes again each so many minutes as many are in any so many minutes. -/
theorem cnt_turn {p : Int → Bool} {w : Nat} (h : ∀ x, p (x + w) = p x) (a : Int) (n : Nat) : cntN p (a + n) w = cntN p a w := by
  have h1 := cnt_add p a n w
  have h2 := cnt_add p a w n
  have h3 : cntN p (a + w) n = cntN p a n := by
    rw [← cnt_move p a w n]
    exact cnt_congr fun m _ _ => h m
  rw [Nat.add_comm] at h2
  omega
theorem cnt_any {p : Int → Bool} {w : Nat} (h : ∀ x, p (x + w) = p x) (a b : Int) : cntN p a w = cntN p b w := by
  by_cases q : a ≤ b
  · obtain ⟨n, hn⟩ : ∃ n : Nat, b = a + n := ⟨(b - a).toNat, by omega⟩
    rw [hn, cnt_turn h]
  · obtain ⟨n, hn⟩ : ∃ n : Nat, a = b + n := ⟨(a - b).toNat, by omega⟩
    rw [hn, cnt_turn h]
end Sp
namespace Hr
open Sp
/-- On how many of a week's first days a set has. -/
def dysI (d : Int) : Nat → Int
  | 0 => 0
  | k + 1 => dysI d k + d / 2 ^ k % 2
theorem dys_bd (d : Int) : ∀ k, 0 ≤ dysI d k ∧ dysI d k ≤ k
  | 0 => ⟨Int.le_refl _, Int.le_refl _⟩
  | k + 1 => by
    have := dys_bd d k
    unfold dysI
    omega
def shB (s : Int × Int × Int) (l : Int) : Bool := onB (dyI l) (miI l) s
theorem sh_turn (s : Int × Int × Int) (l : Int) : shB s (l + (10080 : Nat)) = shB s l := by
  have h1 : dyI (l + (10080 : Nat)) = dyI l + 7 := by unfold dyI; omega
  have h2 : miI (l + (10080 : Nat)) = miI l := by unfold miI; omega
  unfold shB onB
  rw [h1, h2, show ((dyI l + 7 + 7) % 7) = ((dyI l + 7) % 7) by omega]
theorem sh_day {s : Int × Int × Int} (h : okS s) (k : Nat) (hk : k < 7) : (cntN (shB s) (k * 1440) 1440 : Int) = s.1 / 2 ^ k % 2 * (s.2.2 - s.2.1) := by
  unfold okS at h
  have hon : ∀ x : Int, (k : Int) * 1440 ≤ x → x < k * 1440 + 1440 → shB s x = (bitB s.1 k && decide (s.2.1 ≤ x - k * 1440) && decide (x - k * 1440 < s.2.2)) := fun x h1 h2 => by
    have hd : dyI x = k := dy_of.2 ⟨h1, h2⟩
    have hm := dy_mi x
    rw [hd] at hm
    unfold shB onB
    rw [hd, show (((k : Int) + 7) % 7).toNat = k by omega, show miI x = x - k * 1440 by omega]
  obtain ⟨f, hf⟩ : ∃ f : Nat, s.2.1 = f := ⟨s.2.1.toNat, by omega⟩
  obtain ⟨g, hg⟩ : ∃ g : Nat, s.2.2 = s.2.1 + g := ⟨(s.2.2 - s.2.1).toNat, by omega⟩
  obtain ⟨r, hr⟩ : ∃ r : Nat, 1440 = f + g + r := ⟨1440 - (f + g), by omega⟩
  have e : cntN (shB s) (k * 1440) 1440 = cntN (shB s) (k * 1440) f + cntN (shB s) (k * 1440 + f) g + cntN (shB s) (k * 1440 + (f + g : Nat)) r := by
    rw [← cnt_add, ← cnt_add, ← hr]
  have e1 : cntN (shB s) (k * 1440) f = 0 := cnt_none fun m h1 h2 => by
    rw [hon m h1 (by omega), decide_eq_false (show ¬ s.2.1 ≤ m - k * 1440 by omega)]; simp
  have e3 : cntN (shB s) (k * 1440 + (f + g : Nat)) r = 0 := cnt_none fun m h1 h2 => by
    rw [hon m (by omega) (by omega), decide_eq_false (show ¬ m - k * 1440 < s.2.2 by omega)]; simp
  rw [e, e1, e3]
  by_cases hb : bitB s.1 k = true
  · have e2 : cntN (shB s) (k * 1440 + f) g = g := cnt_all fun m h1 h2 => by
      rw [hon m (by omega) (by omega), hb, decide_eq_true (show s.2.1 ≤ m - k * 1440 by omega), decide_eq_true (show m - k * 1440 < s.2.2 by omega)]; rfl
    have hq : s.1 / 2 ^ k % 2 = 1 := of_decide_eq_true hb
    rw [e2, hq]; omega
  · have e2 : cntN (shB s) (k * 1440 + f) g = 0 := cnt_none fun m h1 h2 => by
      rw [hon m (by omega) (by omega), Bool.eq_false_iff.2 hb]; rfl
    have hq : s.1 / 2 ^ k % 2 = 0 := by
      have : ¬ s.1 / 2 ^ k % 2 = 1 := fun q => hb (decide_eq_true q)
      omega
    rw [e2, hq]; omega
theorem sh_days {s : Int × Int × Int} (h : okS s) : ∀ k, k ≤ 7 → (cntN (shB s) 0 (k * 1440) : Int) = dysI s.1 k * (s.2.2 - s.2.1)
  | 0, _ => by simp [cntN, dysI]
  | k + 1, hk => by
    have h1 := sh_days h k (by omega)
    have h2 := sh_day h k (by omega)
    rw [Nat.add_mul, Nat.one_mul, cnt_add]
    unfold dysI
    rw [Int.add_mul, Int.natCast_add, h1, Int.zero_add, show ((k * 1440 : Nat) : Int) = (k : Int) * 1440 by omega, h2]
theorem sh_week {s : Int × Int × Int} (h : okS s) (a : Int) : (cntN (shB s) a 10080 : Int) = dysI s.1 7 * (s.2.2 - s.2.1) := by
  rw [cnt_any (sh_turn s) a 0]
  exact sh_days h 7 (Nat.le_refl _)
/-- What is worked, with one shift, no day off, and the same added. -/
theorem one_works {s : Int × Int × Int} {b : Int} (x : Int) : worksB ⟨[s], []⟩ (fun _ => b) x = (decide (0 ≤ x) && decide (x ≤ 158310719) && shB s (x + b)) := by
  rw [works_loc]
  unfold locB shB
  simp
theorem week_len {s : Int × Int × Int} {b from_ : Int} {l : List Spn} (h : okS s) (h0 : 0 ≤ from_ ∧ from_ + 10080 ≤ 158310720) (hf : form l) (hh : ∀ x, has l x ↔ from_ ≤ x ∧ x < from_ + 10080 ∧ worksB ⟨[s], []⟩ (fun _ => b) x = true) :
    len l = dysI s.1 7 * (s.2.2 - s.2.1) ∧ ∀ t ∈ l, t.1 < t.2 ∧ from_ ≤ t.1 ∧ t.2 ≤ from_ + 10080 := by
  have hb : ∀ t ∈ l, t.1 < t.2 ∧ from_ ≤ t.1 ∧ t.2 ≤ from_ + 10080 := fun t ht => by
    have q0 := mem_has hf ht
    have q1 := (hh t.1).1 ⟨t, ht, Int.le_refl _, q0⟩
    have q2 := (hh (t.2 - 1)).1 ⟨t, ht, by omega, by omega⟩
    omega
  refine ⟨?_, hb⟩
  have e : cntN (hasB l) from_ 10080 = cntN (fun x => shB s (x + b)) from_ 10080 := cnt_congr fun m h1 h2 => by
    rw [Bool.eq_iff_iff, hasB_iff, hh, one_works, decide_eq_true (show 0 ≤ m by omega), decide_eq_true (show m ≤ 158310719 by omega)]
    constructor
    · intro q; simpa using q.2.2
    · intro q; exact ⟨h1, by omega, by simpa using q⟩
  rw [len_cnt l from_ 10080 hf (fun t ht => (hb t ht).2), ← sh_week h (from_ + b), ← cnt_move (shB s) from_ b 10080, e]
theorem week_turn {s : Int × Int × Int} {b x : Int} (h0 : 0 ≤ x ∧ x + 10080 ≤ 158310719) : worksB ⟨[s], []⟩ (fun _ => b) (x + 10080) = worksB ⟨[s], []⟩ (fun _ => b) x := by
  rw [one_works, one_works, decide_eq_true (show 0 ≤ x by omega), decide_eq_true (show x ≤ 158310719 by omega), decide_eq_true (show 0 ≤ x + 10080 by omega), decide_eq_true (show x + 10080 ≤ 158310719 by omega), show x + 10080 + b = x + b + (10080 : Nat) by omega, sh_turn]
end Hr
