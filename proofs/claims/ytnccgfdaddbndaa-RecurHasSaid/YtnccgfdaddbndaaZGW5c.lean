import Derived.Test.YtnccgfdaddbndaaZGW5a
import Derived.Test.YtnccgfdaddbndaaZGW5b
/- Contract of the program's May: it is the document's. -/
section
namespace Go.Proofs.Ytnccgfdaddbndaa
open Go.ChangeShapes Go.WideShapes Go.ChangeAt Go.RowKit Qr Ck Sp

theorem cmp_lt {x y : Int} : Lib.compareInt x y < 0 ↔ x < y := by
  unfold Lib.compareInt
  split
  · simp; assumption
  · split <;> simp <;> omega
theorem ordD_lt {a b : Int × Int} : ordD a b < 0 ↔ a.1 < b.1 ∨ (a.1 = b.1 ∧ a.2 < b.2) := by
  unfold ordD
  split
  · rename_i h; rw [cmp_lt]; omega
  · rename_i h; rw [cmp_lt]; omega
theorem place_iff {most n : Int} : placeB most n = true ↔ n ≠ 0 ∧ -most ≤ n ∧ n ≤ most := by
  unfold placeB; rw [Bool.and_eq_true, fromB_iff]; simp
theorem row1_eq (l : List Int) : rowMB (fun x => fromB 1 x 12) Lib.compareInt l 0 0 = rowB 12 false l := by
  rw [Bool.eq_iff_iff, rowMB_iff, rowB_iff]
  constructor
  · intro h i hi; have := h i hi (Nat.zero_le _); rw [fromB_iff, cmp_lt] at this; unfold okN; exact ⟨by omega, by omega, by omega, .inr (by omega), by omega⟩
  · intro h i hi _
    obtain ⟨h1, h2, h3, h4, h5⟩ := h i hi
    rw [fromB_iff, cmp_lt]
    rcases h4 with h4 | h4
    · cases h4
    · omega
theorem row2_eq (most : Int) (l : List Int) : rowMB (placeB most) Lib.compareInt l 0 0 = rowB most true l := by
  rw [Bool.eq_iff_iff, rowMB_iff, rowB_iff]
  constructor
  · intro h i hi; have := h i hi (Nat.zero_le _); rw [place_iff, cmp_lt] at this; unfold okN; exact ⟨by omega, by omega, by omega, .inl rfl, by omega⟩
  · intro h i hi _
    obtain ⟨h1, h2, h3, h4, h5⟩ := h i hi
    rw [place_iff, cmp_lt]
    omega
theorem months_iff {fq : Int} {n1 : Nat} : monthsB fq n1 = true ↔ fq = 3 ∨ (fq = 4 ∧ 0 < n1) := by unfold monthsB; simp
theorem day_iff {fq : Int} {n1 : Nat} {d : Int × Int} : dayB fq n1 d = true ↔ (0 ≤ d.2 ∧ d.2 ≤ 6) ∧ (d.1 = 0 ∨ ((fq = 3 ∨ (fq = 4 ∧ 0 < n1)) ∧ d.1 ≠ 0 ∧ -5 ≤ d.1 ∧ d.1 ≤ 5)) := by
  unfold dayB; rw [Bool.and_eq_true, fromB_iff, Bool.or_eq_true, Bool.and_eq_true, months_iff, place_iff]; simp
theorem row3_eq (r : R) (hf : 1 ≤ r.freq ∧ r.freq ≤ 4) : rowMB (dayB r.freq r.bm.length) ordD r.bw (0, 0) 0 = daysB r := by
  have hm : (!r.bm.isEmpty) = true ↔ 0 < r.bm.length := isEmpty_len r.bm
  rw [Bool.eq_iff_iff, rowMB_iff, daysB_iff]
  constructor
  · intro h i hi
    have := h i hi (Nat.zero_le _)
    rw [day_iff, ordD_lt] at this
    unfold okD
    simp only [hm]
    omega
  · intro h i hi _
    have := h i hi
    unfold okD at this
    simp only [hm] at this
    rw [day_iff, ordD_lt]
    omega
theorem end_iff {un ct : Int} : endB un ct = true ↔ (un = -1 ∧ 0 ≤ ct ∧ ct ≤ 5000) ∨ (un ≠ -1 ∧ 0 ≤ un ∧ un < 158310720 ∧ ct = 0) := by
  unfold endB
  split
  · rw [fromB_iff]; omega
  · simp; omega
theorem says_iff {a b c : Nat} : saysB a b c = true ↔ 0 < a ∨ 0 < b ∨ 0 < c := by unfold saysB; simp
theorem mayB_eq (r : R) : mayB r = (fromB 1 r.freq 4 && fromB 1 r.iv 999 && endB r.until_ r.count && rowMB (fun x => fromB 1 x 12) Lib.compareInt r.bm 0 0 && rowMB (placeB 31) Lib.compareInt r.bd 0 0 && (decide (r.bd.length = 0) || decide (r.freq ≠ 2)) &&
    rowMB (dayB r.freq r.bm.length) ordD r.bw (0, 0) 0 && rowMB (placeB 366) Lib.compareInt r.bs 0 0 && (decide (r.bs.length = 0) || saysB r.bm.length r.bd.length r.bw.length) && fromB 0 r.start 6) := by
  have hz : ∀ {α : Type} (l : List α), l = [] ↔ l.length = 0 := fun l => by cases l <;> simp
  rw [row1_eq, row2_eq, row2_eq, Bool.eq_iff_iff]
  unfold mayB mayP
  by_cases hf : 1 ≤ r.freq ∧ r.freq ≤ 4
  · rw [row3_eq r hf]
    simp only [decide_eq_true_eq, Bool.and_eq_true, Bool.or_eq_true, fromB_iff, end_iff, says_iff, hz, Ne]
    generalize rowB 12 false r.bm = q1
    generalize rowB 31 true r.bd = q2
    generalize rowB 366 true r.bs = q3
    generalize daysB r = q4
    generalize r.bm.length = n1
    generalize r.bd.length = n2
    generalize r.bw.length = n3
    generalize r.bs.length = n4
    have hz0 : ∀ n : Nat, n = 0 ↔ ¬ 0 < n := fun n => by omega
    cases q1 <;> cases q2 <;> cases q3 <;> cases q4 <;> simp only [Bool.false_eq_true, false_and, and_false, and_true, true_and, iff_self, hz0, Classical.not_not]
    omega
  · constructor
    · intro h
      have h := of_decide_eq_true h
      exact absurd ⟨h.1.1, h.1.2.1⟩ hf
    · intro h
      simp only [Bool.and_eq_true, fromB_iff] at h
      exact absurd h.1.1.1.1.1.1.1.1.1 hf

set_option maxHeartbeats 1000000 in
theorem pmay_any (r : R) (A1 A2 A3 A4 : Option Addr) (c1 c2 c3 c4 : Nat) (w : World) (hs : RAt w r A1 A2 A3 A4 c1 c2 c3 c4) :
    Calls Try.prog 27 #[.agg (rcells r A1 A2 A3 A4 c1 c2 c3 c4)] w fun e w' => e = .returned (.bool (mayB r)) ∧ Below w.heap.size w w' := by
  rw [mayB_eq]
  obtain ⟨W, hW⟩ : ∃ W, w.alloc (.cells (rcells r A1 A2 A3 A4 c1 c2 c3 c4) 25) = W := ⟨_, rfl⟩
  have hsW : RAt W r A1 A2 A3 A4 c1 c2 c3 c4 := by rw [← hW]; exact hs.below ((Below.refl _ w).alloc (Nat.le_refl _) _) (Nat.le_refl _)
  have K1 : ∀ (V : World), Below W.heap.size W V → RAt V r A1 A2 A3 A4 c1 c2 c3 c4 := fun V hb => hsW.below hb (Nat.le_refl _)
  have H4 : ∀ V, SM r.freq r.iv r.count r.until_ A1 A2 A3 A4 r.bm.length r.bd.length r.bw.length r.bs.length c1 c2 c3 c4 r.start W w.heap.size V → Calls Try.prog 35 #[.slice A1 r.bm.length c1, .func (.func 36) #[] #[], .func (.func 37) #[] #[]] V fun e w' => e = .returned (.bool (rowMB (fun x => fromB 1 x 12) Lib.compareInt r.bm 0 0)) ∧ Below V.heap.size V w' := fun V hV =>
    rowMay_int1 r.bm A1 c1 #[] (fun x => fromB 1 x 12) V (K1 V hV.below).s1 (fun g x => (may1_any x g.val).mono fun e w' ⟨he, hw⟩ => ⟨he, by rw [← hw]; exact Below.refl _ _⟩)
  have H58 : ∀ (A : Option Addr) (l : List Int) (c : Nat) (m : Int), 0 ≤ m ∧ m ≤ 1000 → ∀ V : World, Sl V A l.length c (iv l) → Calls Try.prog 35 #[.slice A l.length c, .func (.func 36) #[] #[], .func (.func 53) #[] #[.pointer (some ⟨V.heap.size, 0, none⟩)]] (V.alloc (.cells #[.int .i64 m] 3)) fun e w' => e = .returned (.bool (rowMB (placeB m) Lib.compareInt l 0 0)) ∧ Below (V.alloc (.cells #[.int .i64 m] 3)).heap.size (V.alloc (.cells #[.int .i64 m] 3)) w' := fun A l c m hm V hV =>
    rowMay_int2 l A c #[.pointer (some ⟨V.heap.size, 0, none⟩)] (placeB m) _ (hV.alloc _) (fun g x => (isPlace1_any m x V.heap.size g.val hm (box_at (w := V) (t := 3) (C := #[.int .i64 m]) rfl g)).mono fun e w' ⟨he, hw⟩ => ⟨he, by rw [← hw]; exact Below.refl _ _⟩)
  have H5 : ∀ V, SM r.freq r.iv r.count r.until_ A1 A2 A3 A4 r.bm.length r.bd.length r.bw.length r.bs.length c1 c2 c3 c4 r.start W w.heap.size V → _ := fun V hV => H58 A2 r.bd c2 31 (by omega) V (K1 V hV.below).s2
  have H8 : ∀ V, SM r.freq r.iv r.count r.until_ A1 A2 A3 A4 r.bm.length r.bd.length r.bw.length r.bs.length c1 c2 c3 c4 r.start W w.heap.size V → _ := fun V hV => H58 A4 r.bs c4 366 (by omega) V (K1 V hV.below).s4
  have H7 : ∀ V, SM r.freq r.iv r.count r.until_ A1 A2 A3 A4 r.bm.length r.bd.length r.bw.length r.bs.length c1 c2 c3 c4 r.start W w.heap.size V → Calls Try.prog 39 #[.slice A3 r.bw.length c3, .func (.func 40) #[] #[], .func (.func 41) #[] #[.pointer (some ⟨w.heap.size, 0, none⟩)]] V fun e w' => e = .returned (.bool (rowMB (dayB r.freq r.bm.length) ordD r.bw (0, 0) 0)) ∧ Below V.heap.size V w' := fun V hV =>
    rowMay_days r.bw A3 c3 #[.pointer (some ⟨w.heap.size, 0, none⟩)] (dayB r.freq r.bm.length) V (K1 V hV.below).s3 (fun g x => may2_any x g.val w.heap.size (hV.box.up g.ok))
  rw [rc9_of]
  rw [rc9_of] at hW
  generalize e1 : fromB 1 r.freq 4 = b1
  generalize e2 : fromB 1 r.iv 999 = b2
  generalize e3 : endB r.until_ r.count = b3
  generalize rowMB (fun x => fromB 1 x 12) Lib.compareInt r.bm 0 0 = b4 at *
  generalize rowMB (placeB 31) Lib.compareInt r.bd 0 0 = b5 at *
  generalize rowMB (dayB r.freq r.bm.length) ordD r.bw (0, 0) 0 = b7 at *
  generalize rowMB (placeB 366) Lib.compareInt r.bs 0 0 = b8 at *
  generalize e9 : saysB r.bm.length r.bd.length r.bw.length = b9
  generalize e10 : fromB 0 r.start 6 = b10
  cases b1 with
  | false => exact pmay_w1 _ _ _ _ _ _ _ _ _ _ _ _ _ _ _ _ _ W w _ b2 b3 b4 b5 b7 b8 b9 b10 rfl hW e1 e2 e3 e9 e10 H4 H5 H7 H8
  | true =>
  cases b2 with
  | false => exact pmay_w2 _ _ _ _ _ _ _ _ _ _ _ _ _ _ _ _ _ W w _ _ b3 b4 b5 b7 b8 b9 b10 rfl rfl hW e1 e2 e3 e9 e10 H4 H5 H7 H8
  | true =>
  cases b3 with
  | false => exact pmay_w3 _ _ _ _ _ _ _ _ _ _ _ _ _ _ _ _ _ W w _ _ _ b4 b5 b7 b8 b9 b10 rfl rfl rfl hW e1 e2 e3 e9 e10 H4 H5 H7 H8
  | true =>
  cases b4 with
  | false => exact pmay_w4 _ _ _ _ _ _ _ _ _ _ _ _ _ _ _ _ _ W w _ _ _ _ b5 b7 b8 b9 b10 rfl rfl rfl rfl hW e1 e2 e3 e9 e10 H4 H5 H7 H8
  | true =>
  cases b5 with
  | false => exact pmay_w5 _ _ _ _ _ _ _ _ _ _ _ _ _ _ _ _ _ W w _ _ _ _ _ b7 b8 b9 b10 rfl rfl rfl rfl rfl hW e1 e2 e3 e9 e10 H4 H5 H7 H8
  | true =>
  by_cases l2 : r.bd.length = 0
  · rw [show (decide (r.bd.length = 0) || decide (r.freq ≠ 2)) = true by rw [decide_eq_true l2]; rfl]
    cases b7 with
    | false => exact pmay_w7a _ _ _ _ _ _ _ _ _ _ _ _ _ _ _ _ _ W w true true true true true false b8 b9 b10 rfl rfl rfl rfl rfl rfl l2 hW e1 e2 e3 e9 e10 H4 H5 H7 H8
    | true =>
    cases b8 with
    | false => exact pmay_w8a _ _ _ _ _ _ _ _ _ _ _ _ _ _ _ _ _ W w true true true true true true false b9 b10 rfl rfl rfl rfl rfl rfl rfl l2 hW e1 e2 e3 e9 e10 H4 H5 H7 H8
    | true =>
    by_cases l4 : r.bs.length = 0
    · rw [show (decide (r.bs.length = 0) || b9) = true by rw [decide_eq_true l4]; rfl]
      cases b10 with
      | false => exact pmay_w10aa _ _ _ _ _ _ _ _ _ _ _ _ _ _ _ _ _ W w true true true true true true true b9 false rfl rfl rfl rfl rfl rfl rfl rfl l2 l4 hW e1 e2 e3 e9 e10 H4 H5 H7 H8
      | true => exact pmay_w11aa _ _ _ _ _ _ _ _ _ _ _ _ _ _ _ _ _ W w true true true true true true true b9 true rfl rfl rfl rfl rfl rfl rfl rfl l2 l4 hW e1 e2 e3 e9 e10 H4 H5 H7 H8
    · rw [decide_eq_false l4]
      cases b9 with
      | false => exact pmay_w9a _ _ _ _ _ _ _ _ _ _ _ _ _ _ _ _ _ W w true true true true true true true false b10 rfl rfl rfl rfl rfl rfl rfl rfl l2 l4 hW e1 e2 e3 e9 e10 H4 H5 H7 H8
      | true =>
      cases b10 with
      | false => exact pmay_w10ab _ _ _ _ _ _ _ _ _ _ _ _ _ _ _ _ _ W w true true true true true true true true false rfl rfl rfl rfl rfl rfl rfl rfl rfl l2 l4 hW e1 e2 e3 e9 e10 H4 H5 H7 H8
      | true => exact pmay_w11ab _ _ _ _ _ _ _ _ _ _ _ _ _ _ _ _ _ W w true true true true true true true true true rfl rfl rfl rfl rfl rfl rfl rfl rfl l2 l4 hW e1 e2 e3 e9 e10 H4 H5 H7 H8
  · by_cases f2 : r.freq = 2
    · rw [decide_eq_false l2, show decide (r.freq ≠ 2) = false from decide_eq_false (fun h => h f2)]
      exact pmay_w6 _ _ _ _ _ _ _ _ _ _ _ _ _ _ _ _ _ W w true true true true true b7 b8 b9 b10 rfl rfl rfl rfl rfl l2 f2 hW e1 e2 e3 e9 e10 H4 H5 H7 H8
    rw [decide_eq_false l2, show decide (r.freq ≠ 2) = true from decide_eq_true f2]
    cases b7 with
    | false => exact pmay_w7b _ _ _ _ _ _ _ _ _ _ _ _ _ _ _ _ _ W w true true true true true false b8 b9 b10 rfl rfl rfl rfl rfl rfl l2 f2 hW e1 e2 e3 e9 e10 H4 H5 H7 H8
    | true =>
    cases b8 with
    | false => exact pmay_w8b _ _ _ _ _ _ _ _ _ _ _ _ _ _ _ _ _ W w true true true true true true false b9 b10 rfl rfl rfl rfl rfl rfl rfl l2 f2 hW e1 e2 e3 e9 e10 H4 H5 H7 H8
    | true =>
    by_cases l4 : r.bs.length = 0
    · rw [show (decide (r.bs.length = 0) || b9) = true by rw [decide_eq_true l4]; rfl]
      cases b10 with
      | false => exact pmay_w10ba _ _ _ _ _ _ _ _ _ _ _ _ _ _ _ _ _ W w true true true true true true true b9 false rfl rfl rfl rfl rfl rfl rfl rfl l2 f2 l4 hW e1 e2 e3 e9 e10 H4 H5 H7 H8
      | true => exact pmay_w11ba _ _ _ _ _ _ _ _ _ _ _ _ _ _ _ _ _ W w true true true true true true true b9 true rfl rfl rfl rfl rfl rfl rfl rfl l2 f2 l4 hW e1 e2 e3 e9 e10 H4 H5 H7 H8
    · rw [decide_eq_false l4]
      cases b9 with
      | false => exact pmay_w9b _ _ _ _ _ _ _ _ _ _ _ _ _ _ _ _ _ W w true true true true true true true false b10 rfl rfl rfl rfl rfl rfl rfl rfl l2 f2 l4 hW e1 e2 e3 e9 e10 H4 H5 H7 H8
      | true =>
      cases b10 with
      | false => exact pmay_w10bb _ _ _ _ _ _ _ _ _ _ _ _ _ _ _ _ _ W w true true true true true true true true false rfl rfl rfl rfl rfl rfl rfl rfl rfl l2 f2 l4 hW e1 e2 e3 e9 e10 H4 H5 H7 H8
      | true => exact pmay_w11bb _ _ _ _ _ _ _ _ _ _ _ _ _ _ _ _ _ W w true true true true true true true true true rfl rfl rfl rfl rfl rfl rfl rfl rfl l2 f2 l4 hW e1 e2 e3 e9 e10 H4 H5 H7 H8
end Go.Proofs.Ytnccgfdaddbndaa
end
