/- Plain mathematics: minutes and stamps read the program's way are the document's. -/
import Derived.Test.YtdokniohjdlmfaaDoorCMath5
namespace Ck
open Go
open Go.Proofs.YtdokniohjdlmfaaDoor.Cal (yOf mOf dOf mayB mayP numI may_iff num_bd dateOf_spec dateOf_eq may_month len_bd)

def posN (z : Int) : Int := if 0 ≤ z then z else 0
def posB (z : Int) : Bool := decide (0 ≤ z)

/-- A minute, read by cutting. -/
def rmV (l : List UInt8) : Int × Bool :=
  if rdB (Lib.cut l [58]).1 2 = true ∧ rdB (Lib.cut l [58]).2.1 2 = true ∧ rdN (Lib.cut l [58]).2.1 2 < 60 ∧ rdN (Lib.cut l [58]).1 2 * 60 + rdN (Lib.cut l [58]).2.1 2 ≤ 1440
  then (rdN (Lib.cut l [58]).1 2 * 60 + rdN (Lib.cut l [58]).2.1 2, true) else (0, false)
theorem rdNB {n : Int} {i : Nat} (h0 : 0 ≤ n) (h : n < 10 ^ i) : rdN (low n i) i = n ∧ rdB (low n i) i = true := by
  unfold rdN rdB; rw [rd_low h0 h]; exact ⟨rfl, rfl⟩
theorem rdB_some {l : List UInt8} {w : Nat} (h : rdB l w = true) : l = low (rdN l w) w ∧ 0 ≤ rdN l w ∧ rdN l w < 10 ^ w := by
  unfold rdB at h
  cases e : rd l w with
  | none => rw [e] at h; cases h
  | some n =>
    have := rd_some e
    unfold rdN; rw [e]; exact this
theorem rdB_nil (w : Nat) (h : 0 < w) : rdB [] w = false := (rd_short (by simp; omega)).2
theorem minT_cut (n : Int) : Lib.cut (minT n) [58] = (low (n / 60) 2, low (n % 60) 2, true) := by
  unfold minT
  rw [List.append_assoc]
  exact cut_at _ _ (not_mem_low (by decide) _ _)
theorem rm_min {n : Int} (h0 : 0 ≤ n) (h : n ≤ 1440) : rmV (minT n) = (n, true) := by
  have a := rdNB (n := n / 60) (i := 2) (by omega) (by omega)
  have b := rdNB (n := n % 60) (i := 2) (by omega) (by omega)
  unfold rmV
  rw [minT_cut]
  simp only [a.1, a.2, b.1, b.2]
  rw [if_pos ⟨trivial, trivial, by omega, by omega⟩]
  congr 1; omega
theorem rm_some {l : List UInt8} {n : Int} (h : rmV l = (n, true)) : minT n = l ∧ 0 ≤ n ∧ n ≤ 1440 := by
  unfold rmV at h
  split at h
  · rename_i hc
    obtain ⟨h1, h2, h3, h4⟩ := hc
    have a := rdB_some h1
    have b := rdB_some h2
    have e : n = rdN (Lib.cut l [58]).1 2 * 60 + rdN (Lib.cut l [58]).2.1 2 := by simpa using (congrArg Prod.fst h).symm
    refine ⟨?_, by omega, by omega⟩
    rcases cut_ways 58 l with ⟨_, hc⟩ | ⟨x, y, rfl, _, hc⟩
    · rw [hc] at h2; rw [rdB_nil 2 (by omega)] at h2; cases h2
    · rw [hc] at a b e h3
      simp only at a b e h3
      unfold minT
      rw [show n / 60 = rdN x 2 by omega, show n % 60 = rdN y 2 by omega, ← a.1, ← b.1, List.append_assoc]
      rfl
  · cases h
theorem minT_inj {a b : Int} (h0 : 0 ≤ a) (h1 : a ≤ 1440) (h2 : 0 ≤ b) (h3 : b ≤ 1440) (e : minT a = minT b) : a = b := by
  have := rm_min h0 h1
  rw [e, rm_min h2 h3] at this
  exact (congrArg Prod.fst this).symm
theorem readM_min {n : Int} (h0 : 0 ≤ n) (h : n ≤ 1440) : readM (minT n) = n := by
  obtain ⟨k, rfl⟩ : ∃ k : Nat, n = k := ⟨n.toNat, by omega⟩
  exact readM_at (fun j hj e => by have := minT_inj (a := j) (b := k) (by omega) (by omega) (by omega) (by omega) e; omega) (by omega) rfl
theorem readM_some {l : List UInt8} (h : 0 ≤ readM l) : minT (readM l) = l ∧ readM l ≤ 1440 := by
  unfold readM at *
  split at h
  · rename_i hc
    have := Zn.first_yes _ _ hc
    rw [if_pos hc]
    exact ⟨of_decide_eq_true this, by omega⟩
  · omega
theorem rm_eq (l : List UInt8) : rmV l = (posN (readM l), posB (readM l)) := by
  by_cases h : 0 ≤ readM l
  · have a := readM_some h
    have b := rm_min h a.2
    rw [a.1] at b
    rw [b]; unfold posN posB; rw [if_pos h, decide_eq_true h]
  · unfold posN posB
    rw [if_neg h, decide_eq_false h]
    rcases hv : rmV l with ⟨n, _ | _⟩
    · unfold rmV at hv
      split at hv
      · cases hv
      · rw [← hv]
    · have c := rm_some hv
      rw [← c.1, readM_min c.2.1 c.2.2] at h
      exact absurd c.2.1 h

/-- A date, read by cutting. -/
noncomputable def rdayV (l : List UInt8) : Int × Bool :=
  if rdB (Lib.cut l [45]).1 4 = true ∧ rdB (Lib.cut (Lib.cut l [45]).2.1 [45]).1 2 = true ∧ rdB (Lib.cut (Lib.cut l [45]).2.1 [45]).2.1 2 = true ∧
    mayB (rdN (Lib.cut l [45]).1 4) (rdN (Lib.cut (Lib.cut l [45]).2.1 [45]).1 2) (rdN (Lib.cut (Lib.cut l [45]).2.1 [45]).2.1 2) = true
  then (numI (rdN (Lib.cut l [45]).1 4) (rdN (Lib.cut (Lib.cut l [45]).2.1 [45]).1 2) (rdN (Lib.cut (Lib.cut l [45]).2.1 [45]).2.1 2), true) else (0, false)
def dayT (y m d : Int) : List UInt8 := low y 4 ++ 45 :: (low m 2 ++ 45 :: low d 2)
theorem dayT_cut (y m d : Int) : Lib.cut (dayT y m d) [45] = (low y 4, low m 2 ++ 45 :: low d 2, true) := cut_at _ _ (not_mem_low (by decide) _ _)
theorem rday_day {y m d : Int} (h : mayP y m d) : rdayV (dayT y m d) = (numI y m d, true) := by
  have hm := may_month h
  have hl := len_bd y m
  have hb := may_iff.2 h
  unfold mayP at h
  have a := rdNB (n := y) (i := 4) (by omega) (by omega)
  have b := rdNB (n := m) (i := 2) (by omega) (by omega)
  have c := rdNB (n := d) (i := 2) (by omega) (by omega)
  unfold rdayV
  rw [dayT_cut]
  simp only
  rw [cut_at (low m 2) (low d 2) (not_mem_low (by decide) _ _)]
  simp only [a.1, a.2, b.1, b.2, c.1, c.2, hb, and_self, if_true]
theorem rday_some {l : List UInt8} {n : Int} (h : rdayV l = (n, true)) : ∃ y m d, l = dayT y m d ∧ mayP y m d ∧ n = numI y m d := by
  unfold rdayV at h
  split at h
  · rename_i hc
    obtain ⟨h1, h2, h3, h4⟩ := hc
    have a := rdB_some h1
    have b := rdB_some h2
    have c := rdB_some h3
    refine ⟨_, _, _, ?_, may_iff.1 h4, (by simpa using (congrArg Prod.fst h).symm)⟩
    rcases cut_ways 45 l with ⟨_, hc⟩ | ⟨x, y, rfl, _, hc⟩
    · rw [hc] at h2
      simp only at h2
      rw [show Lib.cut [] [45] = ([], [], false) from rfl, rdB_nil 2 (by omega)] at h2; cases h2
    · rw [hc] at a b c h3 ⊢
      simp only at a b c h3 ⊢
      rcases cut_ways 45 y with ⟨_, hd⟩ | ⟨u, v, rfl, _, hd⟩
      · rw [hd] at h3; rw [rdB_nil 2 (by omega)] at h3; cases h3
      · rw [hd] at b c ⊢
        simp only at b c ⊢
        unfold dayT
        rw [← a.1, ← b.1, ← c.1]
  · cases h
theorem rday_bd {l : List UInt8} : 0 ≤ (rdayV l).1 ∧ (rdayV l).1 ≤ 109937 := by
  rcases h : rdayV l with ⟨n, _ | _⟩
  · unfold rdayV at h
    split at h
    · cases h
    · have := congrArg Prod.fst h; simp at this; simp; omega
  · obtain ⟨y, m, d, _, hm, rfl⟩ := rday_some h
    exact num_bd hm

/-- A stamp, read by cutting. -/
noncomputable def rsV (l : List UInt8) : Int × Bool :=
  if (rdayV (Lib.cut l [84]).1).2 = true ∧ (rmV (Lib.cut l [84]).2.1).2 = true ∧ ¬ ((rmV (Lib.cut l [84]).2.1).1 = 1440 ∧ (rdayV (Lib.cut l [84]).1).1 ≠ 109937)
  then ((rdayV (Lib.cut l [84]).1).1 * 1440 + (rmV (Lib.cut l [84]).2.1).1, true) else (0, false)
theorem stT_day (y m d mi : Int) : stT y m d mi = dayT y m d ++ 84 :: minT mi := by
  unfold stT dayT; simp [List.append_assoc]
theorem day_no84 (y m d : Int) : (84 : UInt8) ∉ dayT y m d := by
  have n84 : dgt 84 = false := by decide
  unfold dayT
  simp only [List.mem_append, List.mem_cons, not_or]
  exact ⟨not_mem_low n84 _ _, by decide, not_mem_low n84 _ _, by decide, not_mem_low n84 _ _⟩
theorem st_cut (y m d mi : Int) : Lib.cut (stT y m d mi) [84] = (dayT y m d, minT mi, true) := by
  rw [stT_day]; exact cut_at _ _ (day_no84 y m d)
theorem rs_st {n : Int} (h0 : 0 ≤ n) (h : n ≤ 158310720) : rsV (stampT n) = (n, true) := by
  have hb := day_bd h0 h
  have hs := dateOf_spec (dayI n) hb.1 hb.2.1
  have a := rday_day hs.1
  have b := rm_min hb.2.2.1 hb.2.2.2
  unfold rsV stampT
  rw [st_cut]
  simp only [a, b, hs.2]
  have e : dayI n * 1440 + minuteI n = n ∧ ¬ (minuteI n = 1440 ∧ dayI n ≠ 109937) := by unfold dayI minuteI; split <;> omega
  rw [if_pos ⟨trivial, trivial, e.2⟩, e.1]
theorem rs_some {l : List UInt8} {n : Int} (h : rsV l = (n, true)) : stampT n = l ∧ 0 ≤ n ∧ n ≤ 158310720 := by
  unfold rsV at h
  split at h
  · rename_i hc
    obtain ⟨h1, h2, h3⟩ := hc
    have e : n = (rdayV (Lib.cut l [84]).1).1 * 1440 + (rmV (Lib.cut l [84]).2.1).1 := by simpa using (congrArg Prod.fst h).symm
    obtain ⟨y, m, d, hd, hm, hn⟩ := rday_some (l := (Lib.cut l [84]).1) (n := (rdayV (Lib.cut l [84]).1).1) (by rw [← h1])
    obtain ⟨hmi, b1, b2⟩ := rm_some (l := (Lib.cut l [84]).2.1) (n := (rmV (Lib.cut l [84]).2.1).1) (by rw [← h2])
    have hb := num_bd hm
    rw [← hn] at hb
    generalize (rdayV (Lib.cut l [84]).1).1 = dd at *
    generalize (rmV (Lib.cut l [84]).2.1).1 = mm at *
    refine ⟨?_, by omega, by omega⟩
    have ed : dayI n = dd ∧ minuteI n = mm := by unfold dayI minuteI; split <;> omega
    have hy := dateOf_eq hm hn.symm
    unfold stampT
    rw [ed.1, ed.2, hy.1, hy.2.1, hy.2.2, stT_day]
    rcases cut_ways 84 l with ⟨_, hc⟩ | ⟨x, y', rfl, _, hc⟩
    · rw [hc] at h2
      simp only at h2
      rw [show rmV [] = (0, false) from by unfold rmV; rw [show Lib.cut [] [58] = ([], [], false) from rfl]; simp [rdB_nil]] at h2
      cases h2
    · rw [hc] at hd hmi
      simp only at hd hmi
      rw [hd, hmi]
  · cases h
theorem readS_st {n : Int} (h0 : 0 ≤ n) (h : n ≤ 158310720) : readS (stampT n) = n := by
  have hb := day_bd h0 h
  have hs := dateOf_spec (dayI n) hb.1 hb.2.1
  have hm := may_month hs.1
  have hl := len_bd (yOf (dayI n)) (mOf (dayI n))
  have hp := hs.1
  unfold mayP at hp
  have e : dayI n * 1440 + minuteI n = n := by unfold dayI minuteI; split <;> omega
  have v1 : valI ((stampT n).take 4) = yOf (dayI n) := by
    rw [show (stampT n).take 4 = low (yOf (dayI n)) 4 by
      unfold stampT stT
      simp only [List.append_assoc]
      rw [List.take_append_of_le_length (by rw [low_len]; exact Nat.le_refl _), List.take_of_length_le (by rw [low_len]; exact Nat.le_refl _)]]
    exact val_low (by omega) (by omega)
  have d5 : (stampT n).drop 5 = low (mOf (dayI n)) 2 ++ ([45] ++ (low (dOf (dayI n)) 2 ++ ([84] ++ minT (minuteI n)))) := by
    unfold stampT stT
    rw [show low (yOf (dayI n)) 4 ++ [45] ++ low (mOf (dayI n)) 2 ++ [45] ++ low (dOf (dayI n)) 2 ++ [84] ++ minT (minuteI n) = (low (yOf (dayI n)) 4 ++ [45]) ++ (low (mOf (dayI n)) 2 ++ ([45] ++ (low (dOf (dayI n)) 2 ++ ([84] ++ minT (minuteI n))))) by simp only [List.append_assoc]]
    rw [List.drop_append_of_le_length (by simp [low_len]), List.drop_of_length_le (by simp [low_len]), List.nil_append]
  have v2 : valI (((stampT n).drop 5).take 2) = mOf (dayI n) := by
    rw [d5, List.take_append_of_le_length (by rw [low_len]; exact Nat.le_refl _), List.take_of_length_le (by rw [low_len]; exact Nat.le_refl _)]
    exact val_low (by omega) (by omega)
  have d8 : (stampT n).drop 8 = low (dOf (dayI n)) 2 ++ ([84] ++ minT (minuteI n)) := by
    rw [show (stampT n).drop 8 = ((stampT n).drop 5).drop 3 by rw [List.drop_drop], d5]
    rw [show low (mOf (dayI n)) 2 ++ ([45] ++ (low (dOf (dayI n)) 2 ++ ([84] ++ minT (minuteI n)))) = (low (mOf (dayI n)) 2 ++ [45]) ++ (low (dOf (dayI n)) 2 ++ ([84] ++ minT (minuteI n))) by simp only [List.append_assoc]]
    rw [List.drop_append_of_le_length (by simp [low_len]), List.drop_of_length_le (by simp [low_len]), List.nil_append]
  have v3 : valI (((stampT n).drop 8).take 2) = dOf (dayI n) := by
    rw [d8, List.take_append_of_le_length (by rw [low_len]; exact Nat.le_refl _), List.take_of_length_le (by rw [low_len]; exact Nat.le_refl _)]
    exact val_low (by omega) (by omega)
  have v4 : readM ((stampT n).drop 11) = minuteI n := by
    rw [show (stampT n).drop 11 = ((stampT n).drop 8).drop 3 by rw [List.drop_drop], d8, ← List.append_assoc]
    rw [List.drop_append_of_le_length (by simp [low_len]), List.drop_of_length_le (by simp [low_len]), List.nil_append]
    exact readM_min hb.2.2.1 hb.2.2.2
  unfold readS
  rw [v1, v2, v3, v4, hs.2, e, if_pos ⟨stampT_len n, hb.2.2.1, may_iff.2 hs.1, rfl⟩]
theorem readS_some {l : List UInt8} (h : 0 ≤ readS l) : stampT (readS l) = l ∧ readS l ≤ 158310720 := by
  unfold readS at *
  split at h
  · rename_i hc
    rw [if_pos hc]
    obtain ⟨_, h1, h2, h3⟩ := hc
    have := num_bd (may_iff.1 h2)
    have := readM_bd (l.drop 11)
    exact ⟨h3, by omega⟩
  · omega
theorem rs_eq (l : List UInt8) : rsV l = (posN (readS l), posB (readS l)) := by
  by_cases h : 0 ≤ readS l
  · have a := readS_some h
    have b := rs_st h a.2
    rw [a.1] at b
    rw [b]; unfold posN posB; rw [if_pos h, decide_eq_true h]
  · unfold posN posB
    rw [if_neg h, decide_eq_false h]
    rcases hv : rsV l with ⟨n, _ | _⟩
    · unfold rsV at hv
      split at hv
      · cases hv
      · rw [← hv]
    · have c := rs_some hv
      rw [← c.1, readS_st c.2.1 c.2.2] at h
      exact absurd c.2.1 h
theorem posN_bd {z : Int} (h : z ≤ 158310720) : 0 ≤ posN z ∧ posN z ≤ 158310720 := by unfold posN; split <;> omega
end Ck
