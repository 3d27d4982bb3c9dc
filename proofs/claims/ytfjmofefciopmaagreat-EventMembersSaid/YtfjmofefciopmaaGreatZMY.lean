import Derived.Test.YtfjmofefciopmaaGreatZGW5a
import Derived.Test.YtfjmofefciopmaaGreatZGW5b
import Derived.Test.YtfjmofefciopmaaGreatZQW7
/- Contract of the program's May: it is the document's. -/
section
namespace Go.Proofs.YtfjmofefciopmaaGreat
open Go.ChangeShapes Go.WideShapes Go.ChangeAt Go.RowKit Qr Ck Sp
theorem cmp_lt {x y : Int} : Lib.compareInt x y < 0 ↔ x < y := by
  unfold Lib.compareInt
  split
  · simp; assumption
  · split <;> simp <;> omega
theorem ordD_lt {a b : Int × Int} : ordD a b < 0 ↔ a.1 < b.1 ∨ (a.1 = b.1 ∧ a.2 < b.2) := by
  unfold ordD
  split
  · rename_i h; rw [cmp_lt]; omega
  · rename_i h; rw [cmp_lt]; omega
theorem place_iff {most n : Int} : placeB most n = true ↔ n ≠ 0 ∧ -most ≤ n ∧ n ≤ most := by
  unfold placeB; rw [Bool.and_eq_true, fromB_iff]; simp
theorem row1_eq (l : List Int) : rowMB (fun x => fromB 1 x 12) Lib.compareInt l 0 0 = rowB 12 false l := by
  rw [Bool.eq_iff_iff, rowMB_iff, rowB_iff]
  constructor
  · intro h i hi; have := h i hi (Nat.zero_le _); rw [fromB_iff, cmp_lt] at this; unfold okN; exact ⟨by omega, by omega, by omega, .inr (by omega), by omega⟩
  · intro h i hi _
    obtain ⟨h1, h2, h3, h4, h5⟩ := h i hi
    rw [fromB_iff, cmp_lt]
    rcases h4 with h4 | h4
    · cases h4
    · omega
theorem row2_eq (most : Int) (l : List Int) : rowMB (placeB most) Lib.compareInt l 0 0 = rowB most true l := by
  rw [Bool.eq_iff_iff, rowMB_iff, rowB_iff]
  constructor
  · intro h i hi; have := h i hi (Nat.zero_le _); rw [place_iff, cmp_lt] at this; unfold okN; exact ⟨by omega, by omega, by omega, .inl rfl, by omega⟩
  · intro h i hi _
    obtain ⟨h1, h2, h3, h4, h5⟩ := h i hi
    rw [place_iff, cmp_lt]
    omega
theorem months_iff {fq : Int} {n1 : Nat} : monthsB fq n1 = true ↔ fq = 3 ∨ (fq = 4 ∧ 0 < n1) := by unfold monthsB; simp
theorem day_iff {fq : Int} {n1 : Nat} {d : Int × Int} : dayB fq n1 d = true ↔ (0 ≤ d.2 ∧ d.2 ≤ 6) ∧ (d.1 = 0 ∨ ((fq = 3 ∨ (fq = 4 ∧ 0 < n1)) ∧ d.1 ≠ 0 ∧ -5 ≤ d.1 ∧ d.1 ≤ 5)) := by
  unfold dayB; rw [Bool.and_eq_true, fromB_iff, Bool.or_eq_true, Bool.and_eq_true, months_iff, place_iff]; simp
theorem row3_eq (r : R) (hf : 1 ≤ r.freq ∧ r.freq ≤ 4) : rowMB (dayB r.freq r.bm.length) ordD r.bw (0, 0) 0 = daysB r := by
  have hm : (!r.bm.isEmpty) = true ↔ 0 < r.bm.length := isEmpty_len r.bm
  rw [Bool.eq_iff_iff, rowMB_iff, daysB_iff]
  constructor
  · intro h i hi
    have := h i hi (Nat.zero_le _)
    rw [day_iff, ordD_lt] at this
    unfold okD
    simp only [hm]
    omega
  · intro h i hi _
    have := h i hi
    unfold okD at this
    simp only [hm] at this
    rw [day_iff, ordD_lt]
    omega
theorem end_iff {un ct : Int} : endB un ct = true ↔ (un = -1 ∧ 0 ≤ ct ∧ ct ≤ 5000) ∨ (un ≠ -1 ∧ 0 ≤ un ∧ un < 158310720 ∧ ct = 0) := by
  unfold endB
  split
  · rw [fromB_iff]; omega
  · simp; omega
theorem says_iff {a b c : Nat} : saysB a b c = true ↔ 0 < a ∨ 0 < b ∨ 0 < c := by unfold saysB; simp
theorem mayB_eq (r : R) : mayB r = (fromB 1 r.freq 4 && fromB 1 r.iv 999 && endB r.until_ r.count && rowMB (fun x => fromB 1 x 12) Lib.compareInt r.bm 0 0 && rowMB (placeB 31) Lib.compareInt r.bd 0 0 && (decide (r.bd.length = 0) || decide (r.freq ≠ 2)) &&
    rowMB (dayB r.freq r.bm.length) ordD r.bw (0, 0) 0 && rowMB (placeB 366) Lib.compareInt r.bs 0 0 && (decide (r.bs.length = 0) || saysB r.bm.length r.bd.length r.bw.length) && fromB 0 r.start 6) := by
  have hz : ∀ {α : Type} (l : List α), l = [] ↔ l.length = 0 := fun l => by cases l <;> simp
  rw [row1_eq, row2_eq, row2_eq, Bool.eq_iff_iff]
  unfold mayB mayP
  by_cases hf : 1 ≤ r.freq ∧ r.freq ≤ 4
  · rw [row3_eq r hf]
    simp only [decide_eq_true_eq, Bool.and_eq_true, Bool.or_eq_true, fromB_iff, end_iff, says_iff, hz, Ne]
    generalize rowB 12 false r.bm = q1
    generalize rowB 31 true r.bd = q2
    generalize rowB 366 true r.bs = q3
    generalize daysB r = q4
    generalize r.bm.length = n1
    generalize r.bd.length = n2
    generalize r.bw.length = n3
    generalize r.bs.length = n4
    have hz0 : ∀ n : Nat, n = 0 ↔ ¬ 0 < n := fun n => by omega
    cases q1 <;> cases q2 <;> cases q3 <;> cases q4 <;> simp only [Bool.false_eq_true, false_and, and_false, and_true, true_and, iff_self, hz0, Classical.not_not]
    omega
  · constructor
    · intro h
      have h := of_decide_eq_true h
      exact absurd ⟨h.1.1, h.1.2.1⟩ hf
    · intro h
      simp only [Bool.and_eq_true, fromB_iff] at h
      exact absurd h.1.1.1.1.1.1.1.1.1 hf
set_option maxHeartbeats 1000000 in
theorem pmay_any (r : R) (A1 A2 A3 A4 : Option Addr) (c1 c2 c3 c4 : Nat) (w : World) (hs : RAt w r A1 A2 A3 A4 c1 c2 c3 c4) :
    Calls Tryz.prog 22 #[.agg (rcells r A1 A2 A3 A4 c1 c2 c3 c4)] w fun e w' => e = .returned (.bool (mayB r)) ∧ Below w.heap.size w w' := by
  rw [mayB_eq]
  obtain ⟨W, hW⟩ : ∃ W, w.alloc (.cells (rcells r A1 A2 A3 A4 c1 c2 c3 c4) 28) = W := ⟨_, rfl⟩
  have hsW : RAt W r A1 A2 A3 A4 c1 c2 c3 c4 := by rw [← hW]; exact hs.below ((Below.refl _ w).alloc (Nat.le_refl _) _) (Nat.le_refl _)
  have K1 : ∀ (V : World), Below W.heap.size W V → RAt V r A1 A2 A3 A4 c1 c2 c3 c4 := fun V hb => hsW.below hb (Nat.le_refl _)
  have H4 : ∀ V, SM r.freq r.iv r.count r.until_ A1 A2 A3 A4 r.bm.length r.bd.length r.bw.length r.bs.length c1 c2 c3 c4 r.start W w.heap.size V → Calls Tryz.prog 51 #[.slice A1 r.bm.length c1, .func (.func 52) #[] #[], .func (.func 53) #[] #[]] V fun e w' => e = .returned (.bool (rowMB (fun x => fromB 1 x 12) Lib.compareInt r.bm 0 0)) ∧ Below V.heap.size V w' := fun V hV =>
    rowMay_int1 r.bm A1 c1 #[] (fun x => fromB 1 x 12) V (K1 V hV.below).s1 (fun g x => (may1_any x g.val).mono fun e w' ⟨he, hw⟩ => ⟨he, by rw [← hw]; exact Below.refl _ _⟩)
  have H58 : ∀ (A : Option Addr) (l : List Int) (c : Nat) (m : Int), 0 ≤ m ∧ m ≤ 1000 → ∀ V : World, Sl V A l.length c (iv l) → Calls Tryz.prog 51 #[.slice A l.length c, .func (.func 52) #[] #[], .func (.func 87) #[] #[.pointer (some ⟨V.heap.size, 0, none⟩)]] (V.alloc (.cells #[.int .i64 m] 3)) fun e w' => e = .returned (.bool (rowMB (placeB m) Lib.compareInt l 0 0)) ∧ Below (V.alloc (.cells #[.int .i64 m] 3)).heap.size (V.alloc (.cells #[.int .i64 m] 3)) w' := fun A l c m hm V hV =>
    rowMay_int2 l A c #[.pointer (some ⟨V.heap.size, 0, none⟩)] (placeB m) _ (hV.alloc _) (fun g x => (isPlace1_any m x V.heap.size g.val hm (box_at (w := V) (t := 3) (C := #[.int .i64 m]) rfl g)).mono fun e w' ⟨he, hw⟩ => ⟨he, by rw [← hw]; exact Below.refl _ _⟩)
  have H5 : ∀ V, SM r.freq r.iv r.count r.until_ A1 A2 A3 A4 r.bm.length r.bd.length r.bw.length r.bs.length c1 c2 c3 c4 r.start W w.heap.size V → _ := fun V hV => H58 A2 r.bd c2 31 (by omega) V (K1 V hV.below).s2
  have H8 : ∀ V, SM r.freq r.iv r.count r.until_ A1 A2 A3 A4 r.bm.length r.bd.length r.bw.length r.bs.length c1 c2 c3 c4 r.start W w.heap.size V → _ := fun V hV => H58 A4 r.bs c4 366 (by omega) V (K1 V hV.below).s4
  have H7 : ∀ V, SM r.freq r.iv r.count r.until_ A1 A2 A3 A4 r.bm.length r.bd.length r.bw.length r.bs.length c1 c2 c3 c4 r.start W w.heap.size V → Calls Tryz.prog 55 #[.slice A3 r.bw.length c3, .func (.func 56) #[] #[], .func (.func 57) #[] #[.pointer (some ⟨w.heap.size, 0, none⟩)]] V fun e w' => e = .returned (.bool (rowMB (dayB r.freq r.bm.length) ordD r.bw (0, 0) 0)) ∧ Below V.heap.size V w' := fun V hV =>
    rowMay_days r.bw A3 c3 #[.pointer (some ⟨w.heap.size, 0, none⟩)] (dayB r.freq r.bm.length) V (K1 V hV.below).s3 (fun g x => may2_any x g.val w.heap.size (hV.box.up g.ok))
  rw [rc9_of]
  rw [rc9_of] at hW
  generalize e1 : fromB 1 r.freq 4 = b1
  generalize e2 : fromB 1 r.iv 999 = b2
  generalize e3 : endB r.until_ r.count = b3
  generalize rowMB (fun x => fromB 1 x 12) Lib.compareInt r.bm 0 0 = b4 at *
  generalize rowMB (placeB 31) Lib.compareInt r.bd 0 0 = b5 at *
  generalize rowMB (dayB r.freq r.bm.length) ordD r.bw (0, 0) 0 = b7 at *
  generalize rowMB (placeB 366) Lib.compareInt r.bs 0 0 = b8 at *
  generalize e9 : saysB r.bm.length r.bd.length r.bw.length = b9
  generalize e10 : fromB 0 r.start 6 = b10
  cases b1 with
  | false => exact pmay_w1 _ _ _ _ _ _ _ _ _ _ _ _ _ _ _ _ _ W w _ b2 b3 b4 b5 b7 b8 b9 b10 rfl hW e1 e2 e3 e9 e10 H4 H5 H7 H8
  | true =>
  cases b2 with
  | false => exact pmay_w2 _ _ _ _ _ _ _ _ _ _ _ _ _ _ _ _ _ W w _ _ b3 b4 b5 b7 b8 b9 b10 rfl rfl hW e1 e2 e3 e9 e10 H4 H5 H7 H8
  | true =>
  cases b3 with
  | false => exact pmay_w3 _ _ _ _ _ _ _ _ _ _ _ _ _ _ _ _ _ W w _ _ _ b4 b5 b7 b8 b9 b10 rfl rfl rfl hW e1 e2 e3 e9 e10 H4 H5 H7 H8
  | true =>
  cases b4 with
  | false => exact pmay_w4 _ _ _ _ _ _ _ _ _ _ _ _ _ _ _ _ _ W w _ _ _ _ b5 b7 b8 b9 b10 rfl rfl rfl rfl hW e1 e2 e3 e9 e10 H4 H5 H7 H8
  | true =>
  cases b5 with
  | false => exact pmay_w5 _ _ _ _ _ _ _ _ _ _ _ _ _ _ _ _ _ W w _ _ _ _ _ b7 b8 b9 b10 rfl rfl rfl rfl rfl hW e1 e2 e3 e9 e10 H4 H5 H7 H8
  | true =>
  by_cases l2 : r.bd.length = 0
  · rw [show (decide (r.bd.length = 0) || decide (r.freq ≠ 2)) = true by rw [decide_eq_true l2]; rfl]
    cases b7 with
    | false => exact pmay_w7a _ _ _ _ _ _ _ _ _ _ _ _ _ _ _ _ _ W w true true true true true false b8 b9 b10 rfl rfl rfl rfl rfl rfl l2 hW e1 e2 e3 e9 e10 H4 H5 H7 H8
    | true =>
    cases b8 with
    | false => exact pmay_w8a _ _ _ _ _ _ _ _ _ _ _ _ _ _ _ _ _ W w true true true true true true false b9 b10 rfl rfl rfl rfl rfl rfl rfl l2 hW e1 e2 e3 e9 e10 H4 H5 H7 H8
    | true =>
    by_cases l4 : r.bs.length = 0
    · rw [show (decide (r.bs.length = 0) || b9) = true by rw [decide_eq_true l4]; rfl]
      cases b10 with
      | false => exact pmay_w10aa _ _ _ _ _ _ _ _ _ _ _ _ _ _ _ _ _ W w true true true true true true true b9 false rfl rfl rfl rfl rfl rfl rfl rfl l2 l4 hW e1 e2 e3 e9 e10 H4 H5 H7 H8
      | true => exact pmay_w11aa _ _ _ _ _ _ _ _ _ _ _ _ _ _ _ _ _ W w true true true true true true true b9 true rfl rfl rfl rfl rfl rfl rfl rfl l2 l4 hW e1 e2 e3 e9 e10 H4 H5 H7 H8
    · rw [decide_eq_false l4]
      cases b9 with
      | false => exact pmay_w9a _ _ _ _ _ _ _ _ _ _ _ _ _ _ _ _ _ W w true true true true true true true false b10 rfl rfl rfl rfl rfl rfl rfl rfl l2 l4 hW e1 e2 e3 e9 e10 H4 H5 H7 H8
      | true =>
      cases b10 with
      | false => exact pmay_w10ab _ _ _ _ _ _ _ _ _ _ _ _ _ _ _ _ _ W w true true true true true true true true false rfl rfl rfl rfl rfl rfl rfl rfl rfl l2 l4 hW e1 e2 e3 e9 e10 H4 H5 H7 H8
      | true => exact pmay_w11ab _ _ _ _ _ _ _ _ _ _ _ _ _ _ _ _ _ W w true true true true true true true true true rfl rfl rfl rfl rfl rfl rfl rfl rfl l2 l4 hW e1 e2 e3 e9 e10 H4 H5 H7 H8
  · by_cases f2 : r.freq = 2
    · rw [decide_eq_false l2, show decide (r.freq ≠ 2) = false from decide_eq_false (fun h => h f2)]
      exact pmay_w6 _ _ _ _ _ _ _ _ _ _ _ _ _ _ _ _ _ W w true true true true true b7 b8 b9 b10 rfl rfl rfl rfl rfl l2 f2 hW e1 e2 e3 e9 e10 H4 H5 H7 H8
    rw [decide_eq_false l2, show decide (r.freq ≠ 2) = true from decide_eq_true f2]
    cases b7 with
    | false => exact pmay_w7b _ _ _ _ _ _ _ _ _ _ _ _ _ _ _ _ _ W w true true true true true false b8 b9 b10 rfl rfl rfl rfl rfl rfl l2 f2 hW e1 e2 e3 e9 e10 H4 H5 H7 H8
    | true =>
    cases b8 with
    | false => exact pmay_w8b _ _ _ _ _ _ _ _ _ _ _ _ _ _ _ _ _ W w true true true true true true false b9 b10 rfl rfl rfl rfl rfl rfl rfl l2 f2 hW e1 e2 e3 e9 e10 H4 H5 H7 H8
    | true =>
    by_cases l4 : r.bs.length = 0
    · rw [show (decide (r.bs.length = 0) || b9) = true by rw [decide_eq_true l4]; rfl]
      cases b10 with
      | false => exact pmay_w10ba _ _ _ _ _ _ _ _ _ _ _ _ _ _ _ _ _ W w true true true true true true true b9 false rfl rfl rfl rfl rfl rfl rfl rfl l2 f2 l4 hW e1 e2 e3 e9 e10 H4 H5 H7 H8
      | true => exact pmay_w11ba _ _ _ _ _ _ _ _ _ _ _ _ _ _ _ _ _ W w true true true true true true true b9 true rfl rfl rfl rfl rfl rfl rfl rfl l2 f2 l4 hW e1 e2 e3 e9 e10 H4 H5 H7 H8
    · rw [decide_eq_false l4]
      cases b9 with
      | false => exact pmay_w9b _ _ _ _ _ _ _ _ _ _ _ _ _ _ _ _ _ W w true true true true true true true false b10 rfl rfl rfl rfl rfl rfl rfl rfl l2 f2 l4 hW e1 e2 e3 e9 e10 H4 H5 H7 H8
      | true =>
      cases b10 with
      | false => exact pmay_w10bb _ _ _ _ _ _ _ _ _ _ _ _ _ _ _ _ _ W w true true true true true true true true false rfl rfl rfl rfl rfl rfl rfl rfl rfl l2 f2 l4 hW e1 e2 e3 e9 e10 H4 H5 H7 H8
      | true => exact pmay_w11bb _ _ _ _ _ _ _ _ _ _ _ _ _ _ _ _ _ W w true true true true true true true true true rfl rfl rfl rfl rfl rfl rfl rfl rfl l2 f2 l4 hW e1 e2 e3 e9 e10 H4 H5 H7 H8
end Go.Proofs.YtfjmofefciopmaaGreat
end
section
namespace Go.Proofs.YtfjmofefciopmaaGreat
open Go.ChangeShapes Go.WideShapes Go.ChangeAt Go.RowKit Qr Ck Sp
theorem eqI_any (a b : List Int) (A B : Option Addr) (c d : Nat) (w : World) (ha : Sl w A a.length c (iv a)) (hb : Sl w B b.length d (iv b)) :
    Calls Tryz.prog 47 #[.slice A a.length c, .slice B b.length d] w fun e w' => e = .returned (.bool (decide (a = b))) ∧ Below w.heap.size w w' := by
  have hlc : a.length ≤ 9223372036854775807 := Nat.le_trans ha.le ha.cap
  have HA := Lib.hid ha
  have HB := Lib.hid hb
  clear ha hb
  obtain ⟨r, hr⟩ : ∃ r, decide (a = b) = r := ⟨_, rfl⟩
  rw [hr]
  by_cases hl : a.length = b.length
  · have hlb : ((a.length : Int) != (b.length : Int)) = false := by simp; omega
    have HR : Hid (decide (a.drop 0 = b.drop 0) = r) := hr
    have HL := Lib.hid hl
    have hbc : b.length ≤ 9223372036854775807 := by omega
    clear hr hl
    go_enter Tryz.func47, Tryz.ntmps47
    go_wp2
    go_loopw [13] (fun s13 wr => ∃ (i : Nat) (g : Gr w), wr = g.val ∧ i ≤ a.length ∧ s13 = .int .i64 i ∧ Hid (decide (a.drop i = b.drop i) = r)) (fun s13 _ => a.length - (intOf s13).toNat)
    case atStart => exact ⟨0, ⟨w, Below.refl _ _⟩, rfl, Nat.zero_le _, rfl, HR⟩
    case round =>
      obtain ⟨i, g, rfl, hi, rfl, HI⟩ := hrel
      by_cases hlt : i < a.length
      · have hltb : i < b.length := by rw [← HL.out]; exact hlt
        have hiz : (i : Int) < a.length := by omega
        have hib : (i : Int) < b.length := by omega
        obtain ⟨p, off, rfl, hp, hc1⟩ := HA.out.intG (List.getElem?_eq_getElem hlt)
        obtain ⟨q, off2, rfl, hq, hd1⟩ := HB.out.intG (List.getElem?_eq_getElem hltb)
        have c1 := hc1 g
        have d1 := hd1 g
        clear hc1 hd1
        have hst : Hid (decide (a[i] = b[i] ∧ a.drop (i + 1) = b.drop (i + 1)) = r) := by show _ = _; rw [← HI.out, decide_eq_decide, drop_step hlt, drop_step hltb, List.cons.injEq]
        clear HI
        generalize a[i] = x at *
        generalize b[i] = u at *
        by_cases h1 : x = u
        · have h1b : (x != u) = false := by simpa using h1
          have E : Hid (decide (a.drop (i + 1) = b.drop (i + 1)) = r) := by show _ = _; rw [← hst.out, decide_eq_decide]; exact ⟨fun h => ⟨h1, h⟩, fun h => h.2⟩
          clear hst
          subst h1
          go_wp2_with fail
          try (go_region; go_wp2_with fail)
          go_roundw
          case rel => first | exact ⟨i + 1, ⟨g.val.drew, g.ok.drew⟩, rfl, hlt, by go_num, E⟩ | exact ⟨i + 1, g, rfl, hlt, by go_num, E⟩
          case measure => simp [intOf]; omega
        · have h1b : (x != u) = true := by simpa using h1
          have E : Hid (r = false) := by show _ = _; rw [← hst.out, decide_eq_false_iff_not]; exact fun h => h1 h.1
          clear hst
          go_wp2_with fail
          try (go_region; go_wp2_with fail)
          go_ret
          first | exact ⟨ret_bool E.out.symm, g.ok.drew⟩ | exact ⟨ret_bool E.out.symm, g.ok⟩
      · obtain rfl : i = a.length := by omega
        have E : Hid (r = true) := by show _ = _; rw [← HI.out, decide_eq_true_eq, List.drop_of_length_le (Nat.le_refl _), List.drop_of_length_le (by rw [HL.out]; exact Nat.le_refl _)]
        go_wp2_with fail
        go_ret
        exact ⟨ret_bool E.out.symm, g.ok⟩
  · have hlb : ((a.length : Int) != (b.length : Int)) = true := by simp; omega
    have E : Hid (r = false) := by show _ = _; rw [← hr, decide_eq_false_iff_not]; exact fun h => hl (by rw [h])
    clear hr
    go_enter Tryz.func47, Tryz.ntmps47
    go_wp2
    go_ret
    exact ⟨ret_bool E.out.symm, Below.refl _ _⟩
theorem eqD_any (a b : List Spn) (A B : Option Addr) (c d : Nat) (w : World) (ha : Sl w A a.length c (sv a)) (hb : Sl w B b.length d (sv b)) :
    Calls Tryz.prog 48 #[.slice A a.length c, .slice B b.length d] w fun e w' => e = .returned (.bool (decide (a = b))) ∧ Below w.heap.size w w' := by
  have hlc : a.length ≤ 9223372036854775807 := Nat.le_trans ha.le ha.cap
  have HA := Lib.hid ha
  have HB := Lib.hid hb
  clear ha hb
  obtain ⟨r, hr⟩ : ∃ r, decide (a = b) = r := ⟨_, rfl⟩
  rw [hr]
  by_cases hl : a.length = b.length
  · have hlb : ((a.length : Int) != (b.length : Int)) = false := by simp; omega
    have HR : Hid (decide (a.drop 0 = b.drop 0) = r) := hr
    have HL := Lib.hid hl
    have hbc : b.length ≤ 9223372036854775807 := by omega
    clear hr hl
    go_enter Tryz.func48, Tryz.ntmps48
    go_wp2
    go_loopw [13] (fun s13 wr => ∃ (i : Nat) (g : Gr w), wr = g.val ∧ i ≤ a.length ∧ s13 = .int .i64 i ∧ Hid (decide (a.drop i = b.drop i) = r)) (fun s13 _ => a.length - (intOf s13).toNat)
    case atStart => exact ⟨0, ⟨w, Below.refl _ _⟩, rfl, Nat.zero_le _, rfl, HR⟩
    case round =>
      obtain ⟨i, g, rfl, hi, rfl, HI⟩ := hrel
      by_cases hlt : i < a.length
      · have hltb : i < b.length := by rw [← HL.out]; exact hlt
        have hiz : (i : Int) < a.length := by omega
        have hib : (i : Int) < b.length := by omega
        obtain ⟨p, off, rfl, hp, hc1⟩ := HA.out.spanG (List.getElem?_eq_getElem hlt)
        obtain ⟨q, off2, rfl, hq, hd1⟩ := HB.out.spanG (List.getElem?_eq_getElem hltb)
        obtain ⟨c1, c2⟩ := hc1 g
        obtain ⟨d1, d2⟩ := hd1 g
        clear hc1 hd1
        have hst : Hid (decide (a[i] = b[i] ∧ a.drop (i + 1) = b.drop (i + 1)) = r) := by show _ = _; rw [← HI.out, decide_eq_decide, drop_step hlt, drop_step hltb, List.cons.injEq]
        clear HI
        generalize a[i] = x at *
        generalize b[i] = u at *
        obtain ⟨x1, x2⟩ := x
        obtain ⟨u1, u2⟩ := u
        simp only [Prod.mk.injEq] at c1 c2 d1 d2 hst
        by_cases h1 : x1 = u1 ∧ x2 = u2
        · have E : Hid (decide (a.drop (i + 1) = b.drop (i + 1)) = r) := by show _ = _; rw [← hst.out, decide_eq_decide]; exact ⟨fun h => ⟨h1, h⟩, fun h => h.2⟩
          clear hst
          obtain ⟨h1, h2⟩ := h1
          subst h1 h2
          go_wp2_with fail
          try (go_region; go_wp2_with fail)
          go_roundw
          case rel => first | exact ⟨i + 1, ⟨g.val.drew, g.ok.drew⟩, rfl, hlt, by go_num, E⟩ | exact ⟨i + 1, g, rfl, hlt, by go_num, E⟩
          case measure => simp [intOf]; omega
        · have E : Hid (r = false) := by show _ = _; rw [← hst.out, decide_eq_false_iff_not]; exact fun h => h1 h.1
          clear hst
          by_cases h2 : x1 = u1
          · have h3 : ¬ x2 = u2 := fun h => h1 ⟨h2, h⟩
            subst h2
            clear h1
            go_wp2_with fail
            try (go_region; go_wp2_with fail)
            go_ret
            first | exact ⟨ret_bool E.out.symm, g.ok.drew⟩ | exact ⟨ret_bool E.out.symm, g.ok⟩
          · clear h1
            go_wp2_with fail
            try (go_region; go_wp2_with fail)
            go_ret
            first | exact ⟨ret_bool E.out.symm, g.ok.drew⟩ | exact ⟨ret_bool E.out.symm, g.ok⟩
      · obtain rfl : i = a.length := by omega
        have E : Hid (r = true) := by show _ = _; rw [← HI.out, decide_eq_true_eq, List.drop_of_length_le (Nat.le_refl _), List.drop_of_length_le (by rw [HL.out]; exact Nat.le_refl _)]
        go_wp2_with fail
        go_ret
        exact ⟨ret_bool E.out.symm, g.ok⟩
  · have hlb : ((a.length : Int) != (b.length : Int)) = true := by simp; omega
    have E : Hid (r = false) := by show _ = _; rw [← hr, decide_eq_false_iff_not]; exact fun h => hl (by rw [h])
    clear hr
    go_enter Tryz.func48, Tryz.ntmps48
    go_wp2
    go_ret
    exact ⟨ret_bool E.out.symm, Below.refl _ _⟩
end Go.Proofs.YtfjmofefciopmaaGreat
end
section
namespace Go.Proofs.YtfjmofefciopmaaGreat
open Go.ChangeShapes Go.WideShapes Go.ChangeAt Go.RowKit Qr Ck Sp
set_option maxRecDepth 100000 in
set_option maxHeartbeats 4000000 in
theorem same9_any (a b : R) (A1 A2 A3 A4 : Option Addr) (c1 c2 c3 c4 : Nat) (B1 B2 B3 B4 : Option Addr) (d1 d2 d3 d4 : Nat) (w : World) (ha : RAt w a A1 A2 A3 A4 c1 c2 c3 c4) (hb : RAt w b B1 B2 B3 B4 d1 d2 d3 d4) :
    Calls Tryz.prog 21 #[.agg (rcells a A1 A2 A3 A4 c1 c2 c3 c4), .agg (rcells b B1 B2 B3 B4 d1 d2 d3 d4)] w fun e w' => e = .returned (.bool (sameB a b)) ∧ Below w.heap.size w w' := by
  have hl3 : a.bw.length ≤ 9223372036854775807 := Nat.le_trans ha.s3.le ha.s3.cap
  have hm3 : b.bw.length ≤ 9223372036854775807 := Nat.le_trans hb.s3.le hb.s3.cap
  have HAb := fun (g : Gr ((w.alloc (.cells (rcells a A1 A2 A3 A4 c1 c2 c3 c4) 28)).alloc (.cells (rcells b B1 B2 B3 B4 d1 d2 d3 d4) 28))) (k : Nat) (v : Value) (h : (rcells a A1 A2 A3 A4 c1 c2 c3 c4)[k]? = some v) => (show g.val.cell? ⟨w.heap.size, k, none⟩ = some v from cell_old (box_at h ⟨_, (Below.refl _ (w.alloc (.cells (rcells a A1 A2 A3 A4 c1 c2 c3 c4) 28))).alloc (Nat.le_refl _) (.cells (rcells b B1 B2 B3 B4 d1 d2 d3 d4) 28)⟩) g.ok)
  have HBb := fun (g : Gr ((w.alloc (.cells (rcells a A1 A2 A3 A4 c1 c2 c3 c4) 28)).alloc (.cells (rcells b B1 B2 B3 B4 d1 d2 d3 d4) 28))) (k : Nat) (v : Value) (h : (rcells b B1 B2 B3 B4 d1 d2 d3 d4)[k]? = some v) => (show g.val.cell? ⟨w.heap.size + 1, k, none⟩ = some v from by have := box_at (w := w.alloc (.cells (rcells a A1 A2 A3 A4 c1 c2 c3 c4) 28)) h g; simpa using this)
  have HI1 := Lib.hid (fun g : Gr ((w.alloc (.cells (rcells a A1 A2 A3 A4 c1 c2 c3 c4) 28)).alloc (.cells (rcells b B1 B2 B3 B4 d1 d2 d3 d4) 28)) => eqI_any a.bm b.bm A1 B1 c1 d1 g.val (((ha.s1.alloc _).alloc _).gr g) (((hb.s1.alloc _).alloc _).gr g))
  have HI2 := Lib.hid (fun g : Gr ((w.alloc (.cells (rcells a A1 A2 A3 A4 c1 c2 c3 c4) 28)).alloc (.cells (rcells b B1 B2 B3 B4 d1 d2 d3 d4) 28)) => eqI_any a.bd b.bd A2 B2 c2 d2 g.val (((ha.s2.alloc _).alloc _).gr g) (((hb.s2.alloc _).alloc _).gr g))
  have HI3 := Lib.hid (fun g : Gr ((w.alloc (.cells (rcells a A1 A2 A3 A4 c1 c2 c3 c4) 28)).alloc (.cells (rcells b B1 B2 B3 B4 d1 d2 d3 d4) 28)) => eqD_any a.bw b.bw A3 B3 c3 d3 g.val (((ha.s3.alloc _).alloc _).gr g) (((hb.s3.alloc _).alloc _).gr g))
  have HI4 := Lib.hid (fun g : Gr ((w.alloc (.cells (rcells a A1 A2 A3 A4 c1 c2 c3 c4) 28)).alloc (.cells (rcells b B1 B2 B3 B4 d1 d2 d3 d4) 28)) => eqI_any a.bs b.bs A4 B4 c4 d4 g.val (((ha.s4.alloc _).alloc _).gr g) (((hb.s4.alloc _).alloc _).gr g))
  have HA := Lib.hid ((ha.s3.alloc (.cells (rcells a A1 A2 A3 A4 c1 c2 c3 c4) 28)).alloc (.cells (rcells b B1 B2 B3 B4 d1 d2 d3 d4) 28))
  have HB := Lib.hid ((hb.s3.alloc (.cells (rcells a A1 A2 A3 A4 c1 c2 c3 c4) 28)).alloc (.cells (rcells b B1 B2 B3 B4 d1 d2 d3 d4) 28))
  have hbel2 : ∀ g : Gr ((w.alloc (.cells (rcells a A1 A2 A3 A4 c1 c2 c3 c4) 28)).alloc (.cells (rcells b B1 B2 B3 B4 d1 d2 d3 d4) 28)), Below w.heap.size w g.val := fun g => ((Below.refl _ w).alloc (Nat.le_refl _) (.cells (rcells a A1 A2 A3 A4 c1 c2 c3 c4) 28)).trans (((Below.refl _ (w.alloc (.cells (rcells a A1 A2 A3 A4 c1 c2 c3 c4) 28))).alloc (Nat.le_refl _) (.cells (rcells b B1 B2 B3 B4 d1 d2 d3 d4) 28)).trans (g.ok.mono (by simp)) |>.mono (by simp))
  have HBEL := Lib.hid hbel2
  clear hbel2
  obtain ⟨q, hq⟩ : ∃ q, sameB a b = q := ⟨_, rfl⟩
  have HQ : Hid (q = true ↔ sameP a b) := by show _ ↔ _; rw [← hq]; unfold sameB; exact decide_eq_true_iff
  rw [hq]
  clear hq ha hb
  unfold sameP at HQ
  have a0' := fun g => HAb g 0 _ rfl
  have b0' := fun g => HBb g 0 _ rfl
  have a1' := fun g => HAb g 1 _ rfl
  have b1' := fun g => HBb g 1 _ rfl
  have a2' := fun g => HAb g 2 _ rfl
  have b2' := fun g => HBb g 2 _ rfl
  have a3' := fun g => HAb g 3 _ rfl
  have b3' := fun g => HBb g 3 _ rfl
  have a4' := fun g => HAb g 4 _ rfl
  have b4' := fun g => HBb g 4 _ rfl
  have a5' := fun g => HAb g 5 _ rfl
  have b5' := fun g => HBb g 5 _ rfl
  have a6' := fun g => HAb g 6 _ rfl
  have b6' := fun g => HBb g 6 _ rfl
  have a7' := fun g => HAb g 7 _ rfl
  have b7' := fun g => HBb g 7 _ rfl
  have a8' := fun g => HAb g 8 _ rfl
  have b8' := fun g => HBb g 8 _ rfl
  clear HAb HBb
  obtain ⟨f1, f2, f3, f4, bm, bd, bw, bs, f5⟩ := a
  obtain ⟨g1, g2, g3, g4, em, ed, ew, es, g5⟩ := b
  unfold rcells at *
  simp only at *
  by_cases k0 : f1 = g1
  rotate_left
  · have E : Hid (q = false) := q_no HQ.out (fun h => k0 h.1)
    have kb : (f1 == g1) = false := by simpa using k0
    go_enter Tryz.func21, Tryz.ntmps21
    go_wp2_with fail
    go_ret
    exact ⟨ret_bool E.out.symm, HBEL.out ⟨_, Below.refl _ _⟩⟩
  subst k0
  by_cases k1 : f2 = g2
  rotate_left
  · have E : Hid (q = false) := q_no HQ.out (fun h => k1 h.2.1)
    have kb : (f2 == g2) = false := by simpa using k1
    go_enter Tryz.func21, Tryz.ntmps21
    go_wp2_with fail
    go_ret
    exact ⟨ret_bool E.out.symm, HBEL.out ⟨_, Below.refl _ _⟩⟩
  subst k1
  by_cases k2 : f3 = g3
  rotate_left
  · have E : Hid (q = false) := q_no HQ.out (fun h => k2 h.2.2.1)
    have kb : (f3 == g3) = false := by simpa using k2
    go_enter Tryz.func21, Tryz.ntmps21
    go_wp2_with fail
    go_ret
    exact ⟨ret_bool E.out.symm, HBEL.out ⟨_, Below.refl _ _⟩⟩
  subst k2
  by_cases k3 : f4 = g4
  rotate_left
  · have E : Hid (q = false) := q_no HQ.out (fun h => k3 h.2.2.2.1)
    have kb : (f4 == g4) = false := by simpa using k3
    go_enter Tryz.func21, Tryz.ntmps21
    go_wp2_with fail
    go_ret
    exact ⟨ret_bool E.out.symm, HBEL.out ⟨_, Below.refl _ _⟩⟩
  subst k3
  by_cases k4 : f5 = g5
  rotate_left
  · have E : Hid (q = false) := q_no HQ.out (fun h => k4 h.2.2.2.2.1)
    have kb : (f5 == g5) = false := by simpa using k4
    go_enter Tryz.func21, Tryz.ntmps21
    go_wp2_with fail
    go_ret
    exact ⟨ret_bool E.out.symm, HBEL.out ⟨_, Below.refl _ _⟩⟩
  subst k4
  go_enter Tryz.func21, Tryz.ntmps21
  by_cases e0 : bm = em
  rotate_left
  · have E : Hid (q = false) := q_no HQ.out (fun h => e0 h.2.2.2.2.2.2.1)
    have H0 := Lib.hid (HI1.out ⟨_, Below.refl _ _⟩)
    rw [decide_eq_false e0] at H0
    go_wp2_with fail
    go_at_call 47
    refine H0.out.mono ?_
    rintro e w' ⟨rfl, hb⟩
    obtain ⟨g, rfl⟩ := Gr.of hb
    clear hb
    go_wp2_with fail
    go_ret
    exact ⟨ret_bool E.out.symm, HBEL.out g⟩
  have E0 := Lib.hid e0
  have H0 := Lib.hid (HI1.out ⟨_, Below.refl _ _⟩)
  rw [decide_eq_true e0] at H0
  clear e0
  go_wp2_with fail
  go_at_call 47
  refine H0.out.mono ?_
  rintro e w' ⟨rfl, hb⟩
  obtain ⟨g, rfl⟩ := Gr.of hb
  clear hb
  by_cases e1 : bd = ed
  rotate_left
  · have E : Hid (q = false) := q_no HQ.out (fun h => e1 h.2.2.2.2.2.2.2.1)
    have H1 := Lib.hid (HI2.out g)
    rw [decide_eq_false e1] at H1
    have u5 := a5' g
    have v5 := b5' g
    go_wp2_with fail
    go_at_call 47
    refine H1.out.mono ?_
    rintro e w' ⟨rfl, hb⟩
    obtain ⟨g, rfl⟩ := g.on hb
    clear hb
    go_wp2_with fail
    go_ret
    exact ⟨ret_bool E.out.symm, HBEL.out g⟩
  have E1 := Lib.hid e1
  have H1 := Lib.hid (HI2.out g)
  rw [decide_eq_true e1] at H1
  clear e1
  have u5 := a5' g
  have v5 := b5' g
  go_wp2_with fail
  go_at_call 47
  refine H1.out.mono ?_
  rintro e w' ⟨rfl, hb⟩
  obtain ⟨g, rfl⟩ := g.on hb
  clear hb
  by_cases e2 : bw = ew
  rotate_left
  · have E : Hid (q = false) := q_no HQ.out (fun h => e2 h.2.2.2.2.2.1)
    have H2 := Lib.hid (HI3.out g)
    rw [decide_eq_false e2] at H2
    have u6 := a6' g
    have v6 := b6' g
    go_wp2_with fail
    go_at_call 48
    refine H2.out.mono ?_
    rintro e w' ⟨rfl, hb⟩
    obtain ⟨g, rfl⟩ := g.on hb
    clear hb
    go_wp2_with fail
    go_ret
    exact ⟨ret_bool E.out.symm, HBEL.out g⟩
  have E2 := Lib.hid e2
  have H2 := Lib.hid (HI3.out g)
  rw [decide_eq_true e2] at H2
  clear e2
  have u6 := a6' g
  have v6 := b6' g
  go_wp2_with fail
  go_at_call 48
  refine H2.out.mono ?_
  rintro e w' ⟨rfl, hb⟩
  obtain ⟨g, rfl⟩ := g.on hb
  clear hb
  by_cases e3 : bs = es
  rotate_left
  · have E : Hid (q = false) := q_no HQ.out (fun h => e3 h.2.2.2.2.2.2.2.2)
    have H3 := Lib.hid (HI4.out g)
    rw [decide_eq_false e3] at H3
    have u7 := a7' g
    have v7 := b7' g
    go_wp2_with fail
    go_at_call 47
    refine H3.out.mono ?_
    rintro e w' ⟨rfl, hb⟩
    obtain ⟨g, rfl⟩ := g.on hb
    clear hb
    go_wp2_with fail
    go_ret
    exact ⟨ret_bool E.out.symm, HBEL.out g⟩
  have E3 := Lib.hid e3
  have H3 := Lib.hid (HI4.out g)
  rw [decide_eq_true e3] at H3
  clear e3
  have u7 := a7' g
  have v7 := b7' g
  go_wp2_with fail
  go_at_call 47
  refine H3.out.mono ?_
  rintro e w' ⟨rfl, hb⟩
  obtain ⟨g, rfl⟩ := g.on hb
  clear hb
  have E : Hid (q = true) := HQ.out.2 ⟨trivial, trivial, trivial, trivial, trivial, E2.out, E0.out, E1.out, E3.out⟩
  go_wp2_with fail
  go_ret
  exact ⟨ret_bool E.out.symm, HBEL.out g⟩
end Go.Proofs.YtfjmofefciopmaaGreat
end
