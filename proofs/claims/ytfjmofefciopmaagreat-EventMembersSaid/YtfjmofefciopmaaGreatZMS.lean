import Derived.Test.YtfjmofefciopmaaGreatZMR
import Derived.Test.YtfjmofefciopmaaGreatZMY
/- Contract of the program's times: the times between two stamps, to be handed out. -/
section
namespace Go.Proofs.YtfjmofefciopmaaGreat
open Go.ChangeShapes Go.WideShapes Go.ChangeAt Go.RowKit Go.Joins Go.Shelf Qr Tm Cal
section
variable (r : R) (A1 A2 A3 A4 : Option Addr) (c1 c2 c3 c4 : Nat)
set_option maxRecDepth 100000 in
set_option maxHeartbeats 4000000 in
theorem pwithin_no (start from_ to : Int) (hno : ¬ (Qr.mayP r ∧ 0 ≤ start ∧ start < 158310720)) (w : World) (hr : RAt w r A1 A2 A3 A4 c1 c2 c3 c4) :
    Calls Tryz.prog 90 #[.agg (rcells r A1 A2 A3 A4 c1 c2 c3 c4), .int .i64 start, .int .i64 from_, .int .i64 to] w fun e w' => e = .returned (.func (.func 113) #[] #[]) ∧ Below w.heap.size w w' := by
  obtain ⟨W, hW⟩ : ∃ W, w.alloc (.cells (rcells r A1 A2 A3 A4 c1 c2 c3 c4) 28) = W := ⟨_, rfl⟩
  have HW := Lib.hid hW
  have BW : Hid (Below w.heap.size w W) := by show Below _ _ _; rw [← hW]; exact (Below.refl _ w).alloc (Nat.le_refl _) _
  have q3 : W.heap[w.heap.size]? = some (.cells (rcells r A1 A2 A3 A4 c1 c2 c3 c4) 28 (0, 0)) := by rw [← hW, heap_alloc_new]
  have HM := Lib.hid (pmay_any r A1 A2 A3 A4 c1 c2 c3 c4 W (hr.below BW.out (Nat.le_refl _)))
  have hways : (Qr.mayB r = false) ∨ (Qr.mayB r = true ∧ start < 0) ∨ (Qr.mayB r = true ∧ ¬ start < 0 ∧ 158310720 ≤ start) := by
    unfold Qr.mayB
    by_cases h : Qr.mayP r
    · by_cases h2 : start < 0
      · exact .inr (.inl ⟨decide_eq_true h, h2⟩)
      · exact .inr (.inr ⟨decide_eq_true h, h2, by have : ¬ (0 ≤ start ∧ start < 158310720) := fun h3 => hno ⟨h, h3⟩; omega⟩)
    · exact .inl (decide_eq_false h)
  generalize Qr.mayB r = mb at *
  obtain ⟨fq, iv_, ct, un, bm, bd, bw, bs, st⟩ := r
  unfold rcells at *
  simp only at *
  have k0 := blk_cell q3 (i := 0) rfl
  have k1 := blk_cell q3 (i := 1) rfl
  have k2 := blk_cell q3 (i := 2) rfl
  have k3 := blk_cell q3 (i := 3) rfl
  have k4 := blk_cell q3 (i := 4) rfl
  have k5 := blk_cell q3 (i := 5) rfl
  have k6 := blk_cell q3 (i := 6) rfl
  have k7 := blk_cell q3 (i := 7) rfl
  have k8 := blk_cell q3 (i := 8) rfl
  clear hW q3 hr hno
  rcases hways with rfl | ⟨rfl, h1⟩ | ⟨rfl, h1, h2⟩
  all_goals
    try (have h1b : decide (start < 0) = false := decide_eq_false h1)
    go_enter Tryz.func90, Tryz.ntmps90
    go_upto_region 1 with fail
    rw [HW.out]
    go_wp2_with fail
    go_at_call 22
    refine HM.out.mono ?_
    rintro e w2 ⟨rfl, hb⟩
    have HX := Lib.hid (BW.out.trans (hb.mono BW.out.size))
    clear hb k0 k1 k2 k3 k4 k5 k6 k7 k8
    go_wp2_with fail
    go_ret
    exact ⟨rfl, HX.out⟩
def Ready (start first last : Int) (w : World) (e : Ending) (W : World) : Prop :=
  ∃ B1 B2 B3 B4 d1 d2 d3 d4 b1 b2 b3 b4, e = .returned (.func (.func 116) #[] #[.pointer (some ⟨b3, 0, none⟩), .pointer (some ⟨b1, 0, none⟩), .pointer (some ⟨b2, 0, none⟩), .pointer (some ⟨b4, 0, none⟩)]) ∧
    CIn W w.heap.size W.heap.size (crs r (dt (start / 1440).toNat)) B1 B2 B3 B4 d1 d2 d3 d4 ((start / 1440).toNat : Nat) first last b1 b2 b3 ∧ W.heap[b4]? = some (.cells #[.int .i64 (start % 1440)] 2 (0, 0)) ∧ w.heap.size ≤ b4 ∧ Below w.heap.size w W
set_option maxRecDepth 100000 in
set_option maxHeartbeats 4000000 in
theorem pwithin_yes (start from_ to : Int) (hm : Qr.mayP r) (h0 : 0 ≤ start) (h1 : start < 158310720) (hf : -9223372036854775808 ≤ from_ ∧ from_ ≤ 9223372036854775807) (ht : -9223372036854775808 ≤ to ∧ to ≤ 9223372036854775807)
    (hl : r.bm.length ≤ 10000 ∧ r.bd.length ≤ 10000 ∧ r.bw.length ≤ 10000 ∧ r.bs.length ≤ 10000) (w : World) (hr : RAt w r A1 A2 A3 A4 c1 c2 c3 c4) :
    Calls Tryz.prog 90 #[.agg (rcells r A1 A2 A3 A4 c1 c2 c3 c4), .int .i64 start, .int .i64 from_, .int .i64 to] w (Ready r start (dfr (max from_ start) (start % 1440)) (dfr (endS r to) (start % 1440)) w) := by
  obtain ⟨W, hW⟩ : ∃ W, w.alloc (.cells (rcells r A1 A2 A3 A4 c1 c2 c3 c4) 28) = W := ⟨_, rfl⟩
  have HW := Lib.hid hW
  have BW : Hid (Below w.heap.size w W) := by show Below _ _ _; rw [← hW]; exact (Below.refl _ w).alloc (Nat.le_refl _) _
  have q3 : W.heap[w.heap.size]? = some (.cells (rcells r A1 A2 A3 A4 c1 c2 c3 c4) 28 (0, 0)) := by rw [← hW, heap_alloc_new]
  have hrW := hr.below BW.out (Nat.le_refl _)
  have HM := Lib.hid (pmay_any r A1 A2 A3 A4 c1 c2 c3 c4 W hrW)
  rw [show Qr.mayB r = true from decide_eq_true hm] at HM
  have hs : (start / 1440).toNat ≤ 109937 := by omega
  have hsz : (((start / 1440).toNat : Nat) : Int) = start / 1440 := by omega
  have HCO : Hid (∀ V, Below W.heap.size W V → Calls Tryz.prog 114 #[.agg (rcells r A1 A2 A3 A4 c1 c2 c3 c4), .int .i64 (start / 1440)] V fun e w' =>
      ∃ B1 B2 B3 B4 d1 d2 d3 d4, e = .returned (.agg (ccells (crs r (dt (start / 1440).toNat)) B1 B2 B3 B4 d1 d2 d3 d4 ((start / 1440).toNat : Nat))) ∧ RSb w' (V.heap.size + 2) (crs r (dt (start / 1440).toNat)) B1 B2 B3 B4 d1 d2 d3 d4 ∧ Below V.heap.size V w') := fun V hV => by
    have h := pcourse_any r A1 A2 A3 A4 c1 c2 c3 c4 (start / 1440).toNat hs ⟨hm.1.1, hm.1.2.1⟩ hl V (hrW.below hV (Nat.le_refl _))
    rw [hsz] at h ⊢; exact h
  have huc := hm.2.1
  have HDF := Lib.hid (fun n hn w => dfr_any n (start % 1440) hn (by omega) w)
  obtain ⟨r', hr'⟩ : ∃ r', crs r (dt (start / 1440).toNat) = r' := ⟨_, rfl⟩
  obtain ⟨sz, hsz'⟩ : ∃ sz : Int, (((start / 1440).toNat : Nat) : Int) = sz := ⟨_, rfl⟩
  rw [hr', hsz'] at HCO
  have HR' := Lib.hid hr'
  have HSZ' := Lib.hid hsz'
  clear hr' hsz'
  have w1 : start.tdiv 1440 = start / 1440 := Int.tdiv_eq_ediv_of_nonneg h0
  have w2 : IntKind.i64.wrap (start / 1440) = start / 1440 := by rw [IntKind.wrap_i64]; omega
  have w3 : start.tmod 1440 = start % 1440 := Int.tmod_eq_emod_of_nonneg h0
  have w4 : IntKind.i64.wrap (start % 1440) = start % 1440 := by rw [IntKind.wrap_i64]; omega
  obtain ⟨F0, hF0⟩ : ∃ F0, max from_ start = F0 := ⟨_, rfl⟩
  have m1 : (if from_ < start then start else from_) = F0 := by omega
  have m2 : (if start < from_ then from_ else start) = F0 := by omega
  obtain ⟨E0, hE0⟩ : ∃ E0, endS r to = E0 := ⟨_, rfl⟩
  have hE1 : (0 ≤ r.until_ ∧ min to (r.until_ + 1) = E0) ∨ (¬ 0 ≤ r.until_ ∧ to = E0) := by
    unfold endS at hE0
    by_cases h : 0 ≤ r.until_
    · rw [if_pos h] at hE0; exact .inl ⟨h, hE0⟩
    · rw [if_neg h] at hE0; exact .inr ⟨h, hE0⟩
  rw [hF0, hE0]
  have hun : -1 ≤ r.until_ ∧ r.until_ < 158310720 := by omega
  clear hW hr hrW hm huc hl hsz
  have Hq3 := Lib.hid q3
  have hEb : -9223372036854775808 ≤ E0 ∧ E0 ≤ 9223372036854775807 := by omega
  have hFb : -9223372036854775808 ≤ F0 ∧ F0 ≤ 9223372036854775807 := by omega
  have HD1 := Lib.hid (HDF.out F0 hFb)
  have HD2 := Lib.hid (HDF.out E0 hEb)
  unfold rcells at *
  have k0 := blk_cell q3 (i := 0) rfl
  have k1 := blk_cell q3 (i := 1) rfl
  have k2 := blk_cell q3 (i := 2) rfl
  have k3 := blk_cell q3 (i := 3) rfl
  have k4 := blk_cell q3 (i := 4) rfl
  have k5 := blk_cell q3 (i := 5) rfl
  have k6 := blk_cell q3 (i := 6) rfl
  have k7 := blk_cell q3 (i := 7) rfl
  have k8 := blk_cell q3 (i := 8) rfl
  have hs0 : ¬ start < 0 := by omega
  have hs1 : ¬ 158310720 ≤ start := by omega
  have hs0b : decide (start < 0) = false := decide_eq_false hs0
  have hs1b : decide (158310720 ≤ start) = false := decide_eq_false hs1
  clear q3 HDF hE0
  rcases hE1 with ⟨hu, hE⟩ | ⟨hu, hE⟩
  rotate_left
  · have hub : decide (0 ≤ r.until_) = false := decide_eq_false hu
    have hE2 := hE.symm
    subst hE2
    go_enter Tryz.func90, Tryz.ntmps90
    go_upto_region 1 with fail
    rw [HW.out]
    go_wp2_with fail
    go_at_call 22
    refine HM.out.mono ?_
    rintro e w2' ⟨rfl, hb⟩
    have q3 := blk_below Hq3.out hb
    clear k0 k1 k2 k3 k4 k5 k6 k7 k8
    have k0 := blk_cell q3 (i := 0) rfl
    have k1 := blk_cell q3 (i := 1) rfl
    have k2 := blk_cell q3 (i := 2) rfl
    have k3 := blk_cell q3 (i := 3) rfl
    have k4 := blk_cell q3 (i := 4) rfl
    have k5 := blk_cell q3 (i := 5) rfl
    have k6 := blk_cell q3 (i := 6) rfl
    have k7 := blk_cell q3 (i := 7) rfl
    have k8 := blk_cell q3 (i := 8) rfl
    have HB2 := Lib.hid hb
    clear q3 hb
    go_wp2_with fail
    go_at_call 114
    refine (HCO.out _ HB2.out).mono ?_
    rintro e w3' ⟨B1, B2, B3, B4, d1, d2, d3, d4, rfl, hrows, hb3⟩
    unfold ccells
    go_upto_region 7 with fail
    obtain ⟨W4, hW4⟩ : ∃ W4, (w3'.alloc (.cells #[.int .i64 r'.freq, .int .i64 r'.iv, .int .i64 r'.count, .int .i64 r'.until_, .slice B1 r'.bm.length d1, .slice B2 r'.bd.length d2, .slice B3 r'.bw.length d3, .slice B4 r'.bs.length d4, .int .i64 r'.start, .int .i64 sz] 141)).alloc (.cells #[.int .i64 (start % 1440)] 2) = W4 := ⟨_, rfl⟩
    rw [hW4]
    have hmn : W4.heap[w3'.heap.size + 1]? = some (.cells #[.int .i64 (start % 1440)] 2 (0, 0)) := by rw [← hW4]; exact heap_alloc_new2 _ _ _
    have mc := blk_cell hmn (i := 0) rfl
    have hcb : W4.heap[w3'.heap.size]? = some (.cells (ccells r' B1 B2 B3 B4 d1 d2 d3 d4 sz) 141 (0, 0)) := by rw [← hW4, heap_alloc_old _ _ (by simp)]; exact heap_alloc_new _ _
    have hB4 : Below w.heap.size w W4 := by
      rw [← hW4]
      have h3 := (BW.out.trans (HB2.out.mono BW.out.size)).trans (hb3.mono (Nat.le_trans BW.out.size HB2.out.size))
      exact (h3.alloc h3.size _).alloc (by have := h3.size; simp; omega) _
    have hrows4 : RSb W4 w.heap.size r' B1 B2 B3 B4 d1 d2 d3 d4 := by
      have hb : Below w3'.heap.size w3' W4 := by rw [← hW4]; exact ((Below.refl _ _).alloc (Nat.le_refl _) _).alloc (by simp) _
      have hle : w.heap.size ≤ w2'.heap.size + 2 := by have := Nat.le_trans BW.out.size HB2.out.size; omega
      have cv : ∀ {A : Option Addr} {n c : Nat} {xs : List Value}, Sb w3' (w2'.heap.size + 2) A n c xs → Sb W4 w.heap.size A n c xs := fun h => ⟨(h.below hb).sl, fun a e => Nat.le_trans hle (h.up a e)⟩
      exact ⟨cv hrows.s1, cv hrows.s2, cv hrows.s3, cv hrows.s4⟩
    have HMN := Lib.hid hmn
    have HCB := Lib.hid hcb
    have HB4 := Lib.hid hB4
    have HR4 := Lib.hid hrows4
    have hle4 : w.heap.size ≤ w3'.heap.size + 1 := by have h1 := BW.out.size; have h2 := HB2.out.size; have h3 := hb3.size; omega
    clear hmn hcb hB4 hrows4 hrows hb3 hW4 k0 k1 k2 k3 k4 k5 k6 k7 k8
    have hfin : ∀ (p q : Nat) (V : World), V.heap[p]? = some (.cells #[.int .i64 (dfr F0 (start % 1440))] 3 (0, 0)) → V.heap[q]? = some (.cells #[.int .i64 (dfr E0 (start % 1440))] 3 (0, 0)) → Below W4.heap.size W4 V →
        Ready r start (dfr F0 (start % 1440)) (dfr E0 (start % 1440)) w (.returned (.func (.func 116) #[] #[.pointer (some ⟨w3'.heap.size, 0, none⟩), .pointer (some ⟨p, 0, none⟩), .pointer (some ⟨q, 0, none⟩), .pointer (some ⟨w3'.heap.size + 1, 0, none⟩)])) V := by
      intro p q V h1 h2 hb
      have hR := HR4.out
      rw [← HR'.out] at hR
      have h3 := HCB.out
      rw [← HR'.out, ← HSZ'.out] at h3
      refine ⟨B1, B2, B3, B4, d1, d2, d3, d4, p, q, w3'.heap.size, w3'.heap.size + 1, rfl, ⟨h1, h2, blk_below h3 hb, ⟨hR.s1.below hb, hR.s2.below hb, hR.s3.below hb, hR.s4.below hb⟩, ?_⟩, blk_below HMN.out hb, hle4, HB4.out.trans (hb.mono HB4.out.size)⟩
      exact ⟨fun h a e => Nat.lt_of_lt_of_le (sb_top hR.s1 h a e) hb.size, fun h a e => Nat.lt_of_lt_of_le (sb_top hR.s2 h a e) hb.size, fun h a e => Nat.lt_of_lt_of_le (sb_top hR.s3 h a e) hb.size, fun h a e => Nat.lt_of_lt_of_le (sb_top hR.s4 h a e) hb.size⟩
    have al2 : ∀ (x y : Obj), Below W4.heap.size W4 ((W4.alloc x).alloc y).drew := fun x y => (((Below.refl _ W4).alloc (Nat.le_refl _) _).alloc (by simp) _).drew
    have HFIN1 := Lib.hid (hfin W4.heap.size (W4.heap.size + 1) ((W4.alloc (.cells #[.int .i64 (dfr F0 (start % 1440))] 3)).alloc (.cells #[.int .i64 (dfr E0 (start % 1440))] 3)).drew ((heap_alloc_old _ _ (by simp)).trans (heap_alloc_new _ _)) (heap_alloc_new2 _ _ _) (al2 _ _))
    have HFIN2 := Lib.hid (hfin (W4.heap.size + 1) W4.heap.size ((W4.alloc (.cells #[.int .i64 (dfr E0 (start % 1440))] 3)).alloc (.cells #[.int .i64 (dfr F0 (start % 1440))] 3)).drew (heap_alloc_new2 _ _ _) ((heap_alloc_old _ _ (by simp)).trans (heap_alloc_new _ _)) (al2 _ _))
    clear hfin al2
    have HK : Hid (∀ w', Below W4.heap.size W4 w' → w'.cell? ⟨w3'.heap.size + 1, 0, none⟩ = some (.int .i64 (start % 1440))) := fun w' h => cell_old mc h
    clear mc
    go_region_held3 (fun w' => w'.cell? ⟨w3'.heap.size + 1, 0, none⟩ = some (.int .i64 (start % 1440)))
      ((refine HK.out _ ?_; first | exact drew_below _ | exact (drew_below _).alloc (Nat.le_refl _) _ | exact ((drew_below _).alloc (Nat.le_refl _) _).alloc (by simp) _))
      ((go_at_call 115; (first | (with_reducible refine (HD1.out _).mono ?_) | (with_reducible refine (HD2.out _).mono ?_)); rintro e w' ⟨rfl, rfl⟩))
    all_goals
      go_wp2
      go_ret
      first | exact HFIN1.out | exact HFIN2.out
  · have hub : decide (0 ≤ r.until_) = true := decide_eq_true hu
    have n1 : (if r.until_ + 1 < to then r.until_ + 1 else to) = E0 := by omega
    have n2 : (if to < r.until_ + 1 then to else r.until_ + 1) = E0 := by omega
    have w5 : IntKind.i64.wrap (r.until_ + 1) = r.until_ + 1 := by rw [IntKind.wrap_i64]; omega
    go_enter Tryz.func90, Tryz.ntmps90
    go_upto_region 1 with fail
    rw [HW.out]
    go_wp2_with fail
    go_at_call 22
    refine HM.out.mono ?_
    rintro e w2' ⟨rfl, hb⟩
    have q3 := blk_below Hq3.out hb
    clear k0 k1 k2 k3 k4 k5 k6 k7 k8
    have k0 := blk_cell q3 (i := 0) rfl
    have k1 := blk_cell q3 (i := 1) rfl
    have k2 := blk_cell q3 (i := 2) rfl
    have k3 := blk_cell q3 (i := 3) rfl
    have k4 := blk_cell q3 (i := 4) rfl
    have k5 := blk_cell q3 (i := 5) rfl
    have k6 := blk_cell q3 (i := 6) rfl
    have k7 := blk_cell q3 (i := 7) rfl
    have k8 := blk_cell q3 (i := 8) rfl
    have HB2 := Lib.hid hb
    clear q3 hb
    go_wp2_with fail
    go_at_call 114
    refine (HCO.out _ HB2.out).mono ?_
    rintro e w3' ⟨B1, B2, B3, B4, d1, d2, d3, d4, rfl, hrows, hb3⟩
    unfold ccells
    go_upto_region 7 with fail
    obtain ⟨W4, hW4⟩ : ∃ W4, (w3'.alloc (.cells #[.int .i64 r'.freq, .int .i64 r'.iv, .int .i64 r'.count, .int .i64 r'.until_, .slice B1 r'.bm.length d1, .slice B2 r'.bd.length d2, .slice B3 r'.bw.length d3, .slice B4 r'.bs.length d4, .int .i64 r'.start, .int .i64 sz] 141)).alloc (.cells #[.int .i64 (start % 1440)] 2) = W4 := ⟨_, rfl⟩
    rw [hW4]
    have hmn : W4.heap[w3'.heap.size + 1]? = some (.cells #[.int .i64 (start % 1440)] 2 (0, 0)) := by rw [← hW4]; exact heap_alloc_new2 _ _ _
    have mc := blk_cell hmn (i := 0) rfl
    have hcb : W4.heap[w3'.heap.size]? = some (.cells (ccells r' B1 B2 B3 B4 d1 d2 d3 d4 sz) 141 (0, 0)) := by rw [← hW4, heap_alloc_old _ _ (by simp)]; exact heap_alloc_new _ _
    have hB4 : Below w.heap.size w W4 := by
      rw [← hW4]
      have h3 := (BW.out.trans (HB2.out.mono BW.out.size)).trans (hb3.mono (Nat.le_trans BW.out.size HB2.out.size))
      exact (h3.alloc h3.size _).alloc (by have := h3.size; simp; omega) _
    have hrows4 : RSb W4 w.heap.size r' B1 B2 B3 B4 d1 d2 d3 d4 := by
      have hb : Below w3'.heap.size w3' W4 := by rw [← hW4]; exact ((Below.refl _ _).alloc (Nat.le_refl _) _).alloc (by simp) _
      have hle : w.heap.size ≤ w2'.heap.size + 2 := by have := Nat.le_trans BW.out.size HB2.out.size; omega
      have cv : ∀ {A : Option Addr} {n c : Nat} {xs : List Value}, Sb w3' (w2'.heap.size + 2) A n c xs → Sb W4 w.heap.size A n c xs := fun h => ⟨(h.below hb).sl, fun a e => Nat.le_trans hle (h.up a e)⟩
      exact ⟨cv hrows.s1, cv hrows.s2, cv hrows.s3, cv hrows.s4⟩
    have HMN := Lib.hid hmn
    have HCB := Lib.hid hcb
    have HB4 := Lib.hid hB4
    have HR4 := Lib.hid hrows4
    have hle4 : w.heap.size ≤ w3'.heap.size + 1 := by have h1 := BW.out.size; have h2 := HB2.out.size; have h3 := hb3.size; omega
    clear hmn hcb hB4 hrows4 hrows hb3 hW4 k0 k1 k2 k3 k4 k5 k6 k7 k8
    have hfin : ∀ (p q : Nat) (V : World), V.heap[p]? = some (.cells #[.int .i64 (dfr F0 (start % 1440))] 3 (0, 0)) → V.heap[q]? = some (.cells #[.int .i64 (dfr E0 (start % 1440))] 3 (0, 0)) → Below W4.heap.size W4 V →
        Ready r start (dfr F0 (start % 1440)) (dfr E0 (start % 1440)) w (.returned (.func (.func 116) #[] #[.pointer (some ⟨w3'.heap.size, 0, none⟩), .pointer (some ⟨p, 0, none⟩), .pointer (some ⟨q, 0, none⟩), .pointer (some ⟨w3'.heap.size + 1, 0, none⟩)])) V := by
      intro p q V h1 h2 hb
      have hR := HR4.out
      rw [← HR'.out] at hR
      have h3 := HCB.out
      rw [← HR'.out, ← HSZ'.out] at h3
      refine ⟨B1, B2, B3, B4, d1, d2, d3, d4, p, q, w3'.heap.size, w3'.heap.size + 1, rfl, ⟨h1, h2, blk_below h3 hb, ⟨hR.s1.below hb, hR.s2.below hb, hR.s3.below hb, hR.s4.below hb⟩, ?_⟩, blk_below HMN.out hb, hle4, HB4.out.trans (hb.mono HB4.out.size)⟩
      exact ⟨fun h a e => Nat.lt_of_lt_of_le (sb_top hR.s1 h a e) hb.size, fun h a e => Nat.lt_of_lt_of_le (sb_top hR.s2 h a e) hb.size, fun h a e => Nat.lt_of_lt_of_le (sb_top hR.s3 h a e) hb.size, fun h a e => Nat.lt_of_lt_of_le (sb_top hR.s4 h a e) hb.size⟩
    have al2 : ∀ (x y : Obj), Below W4.heap.size W4 ((W4.alloc x).alloc y).drew := fun x y => (((Below.refl _ W4).alloc (Nat.le_refl _) _).alloc (by simp) _).drew
    have HFIN1 := Lib.hid (hfin W4.heap.size (W4.heap.size + 1) ((W4.alloc (.cells #[.int .i64 (dfr F0 (start % 1440))] 3)).alloc (.cells #[.int .i64 (dfr E0 (start % 1440))] 3)).drew ((heap_alloc_old _ _ (by simp)).trans (heap_alloc_new _ _)) (heap_alloc_new2 _ _ _) (al2 _ _))
    have HFIN2 := Lib.hid (hfin (W4.heap.size + 1) W4.heap.size ((W4.alloc (.cells #[.int .i64 (dfr E0 (start % 1440))] 3)).alloc (.cells #[.int .i64 (dfr F0 (start % 1440))] 3)).drew (heap_alloc_new2 _ _ _) ((heap_alloc_old _ _ (by simp)).trans (heap_alloc_new _ _)) (al2 _ _))
    clear hfin al2
    have HK : Hid (∀ w', Below W4.heap.size W4 w' → w'.cell? ⟨w3'.heap.size + 1, 0, none⟩ = some (.int .i64 (start % 1440))) := fun w' h => cell_old mc h
    clear mc
    go_region_held3 (fun w' => w'.cell? ⟨w3'.heap.size + 1, 0, none⟩ = some (.int .i64 (start % 1440)))
      ((refine HK.out _ ?_; first | exact drew_below _ | exact (drew_below _).alloc (Nat.le_refl _) _ | exact ((drew_below _).alloc (Nat.le_refl _) _).alloc (by simp) _))
      ((go_at_call 115; (first | (with_reducible refine (HD1.out _).mono ?_) | (with_reducible refine (HD2.out _).mono ?_)); rintro e w' ⟨rfl, rfl⟩))
    all_goals
      go_wp2
      go_ret
      first | exact HFIN1.out | exact HFIN2.out
end
end Go.Proofs.YtfjmofefciopmaaGreat
end
section
namespace Go.Proofs.YtfjmofefciopmaaGreat
open Go.ChangeShapes Go.WideShapes Go.ChangeAt Go.RowKit Go.Joins Go.Shelf Qr Tm Cal
attribute [local go_sem] Oper.semAt_some
theorem row_rises {most : Int} {b : Bool} {l : List Int} (h : rowB most b l = true) : l.Pairwise (· ≤ ·) := by
  have h1 := rowB_iff.1 h
  have h2 : ∀ j, ∀ i, i < j → j < l.length → l.getD i 0 < l.getD j 0 := by
    intro j
    induction j with
    | zero => intro i hi; omega
    | succ j ih =>
      intro i hi hj
      obtain ⟨_, _, _, _, h3⟩ := h1 (j + 1) hj
      rcases h3 with h3 | h3
      · omega
      · rw [Nat.add_sub_cancel] at h3
        by_cases e : i = j
        · subst e; exact h3
        · have := ih i (by omega) (by omega); omega
  rw [List.pairwise_iff_getElem]
  intro i j hi hj hij
  have := h2 j i hij hj
  rw [List.getD_eq_getElem?_getD, List.getD_eq_getElem?_getD, List.getElem?_eq_getElem hi, List.getElem?_eq_getElem hj] at this
  simp only [Option.getD_some] at this
  omega
theorem crs_rows {r : R} (s : Dt) (h : Qr.mayP r) (hl : r.bd.length ≤ 10000 ∧ r.bs.length ≤ 10000) : (crs r s).bd.length ≤ 10000 ∧ (crs r s).bd.Pairwise (· ≤ ·) ∧ (crs r s).bs.length ≤ 10000 ∧ (crs r s).bs.Pairwise (· ≤ ·) := by
  have h1 := row_rises h.2.2.1.2.1
  have h2 := row_rises h.2.2.1.2.2.1
  have e := (crs_same r s).2.2.2.2.1
  refine ⟨?_, ?_, by rw [e]; exact hl.2, by rw [e]; exact h2⟩
  · unfold crs; split
    · exact hl.1
    · split
      · simp
      · exact hl.1
  · unfold crs; split
    · exact h1
    · split
      · simp
      · exact h1
def xOf (w W : World) (k : Nat) : Prop := k < w.heap.size ∨ k = W.heap.size + 1
def SeqR (T : List Int) (w W : World) (v : Value) : Prop :=
  ∃ gf lb, v = .func (.func gf) #[] lb ∧ (∀ args w', (callFunc gf args).run Tryz.prog w' = .ok (.enter gf args) w') ∧
    ∀ n, 1 ≤ n → SeqO Fence.wide n Tryz.prog gf lb (fun x : Int => #[Value.int .i64 x]) (Kx (xOf w W) W.heap.size) (fun ys => ys = T) (fun pre => pre <+: T) T.length (W.heap.size + 2) W
section
variable (r : R) (A1 A2 A3 A4 : Option Addr) (c1 c2 c3 c4 : Nat)
set_option maxRecDepth 100000 in
set_option maxHeartbeats 1000000 in
theorem seq_no (w W : World) : SeqR [] w W (.func (.func 113) #[] #[]) := by
  refine ⟨113, #[], rfl, enters_of Tryz.func113 (by kernel_rfl) rfl, fun n _ => ?_⟩
  intro l J Jx V _ _ _ _ _ _ h0
  refine callsIn_of_wp Tryz.func113 rfl trivial ?_ rfl
  simp only [Tryz.ntmps113, List.size_toArray, List.length_cons, List.length_nil, Nat.reduceAdd, Nat.reduceSub, Array.replicate_succ, Array.replicate_zero, List.push_toArray, List.append_toArray, List.nil_append, List.cons_append]
  gi_wp2
  first
    | refine bodyPost_ret (results_none rfl _ _ _) rfl ?_
    | go_end0
  first
    | exact ⟨⟨_, rfl⟩, .inl ⟨[], rfl, h0⟩⟩
    | exact ⟨⟨_, rfl⟩, .inl h0⟩
    | exact h0
theorem pwithin_any (start from_ to : Int) (hs : -9223372036854775808 ≤ start ∧ start ≤ 9223372036854775807) (hf : -9223372036854775808 ≤ from_ ∧ from_ ≤ 9223372036854775807) (ht : -9223372036854775808 ≤ to ∧ to ≤ 9223372036854775807)
    (hl : r.bm.length ≤ 10000 ∧ r.bd.length ≤ 10000 ∧ r.bw.length ≤ 10000 ∧ r.bs.length ≤ 10000) (w : World) (hr : RAt w r A1 A2 A3 A4 c1 c2 c3 c4) :
    Calls Tryz.prog 90 #[.agg (rcells r A1 A2 A3 A4 c1 c2 c3 c4), .int .i64 start, .int .i64 from_, .int .i64 to] w fun e W => ∃ v, e = .returned v ∧ SeqR (withinL r start from_ to) w W v ∧ Below w.heap.size w W := by
  by_cases hk : Qr.mayP r ∧ 0 ≤ start ∧ start < 158310720
  · obtain ⟨hm, h0, h1⟩ := hk
    refine (pwithin_yes r A1 A2 A3 A4 c1 c2 c3 c4 start from_ to hm h0 h1 hf ht hl w hr).mono ?_
    rintro e W ⟨B1, B2, B3, B4, d1, d2, d3, d4, b1, b2, b3, b4, rfl, hC, hmn, hb4, hB⟩
    refine ⟨_, rfl, ⟨116, _, rfl, enters_of Tryz.func116 (by kernel_rfl) rfl, fun n hn => ?_⟩, hB⟩
    intro l J Jx V hlM hV hbV hJ hJx hY hJ0
    have hfd := dfr_bd (max from_ start) (start % 1440) (by omega)
    have hld := dfr_bd (endS r to) (start % 1440) (by omega)
    obtain ⟨fn, hfn⟩ : ∃ fn : Nat, dfr (max from_ start) (start % 1440) = fn := ⟨(dfr (max from_ start) (start % 1440)).toNat, by omega⟩
    have hsn : (start / 1440).toNat ≤ fn := by
      have : (start / 1440) ≤ dfr (max from_ start) (start % 1440) := by unfold dfr; omega
      omega
    have hT : withinL r start from_ to = (daysL (crs r (dt (start / 1440).toNat)) (dt (start / 1440).toNat) fn (dfr (endS r to) (start % 1440))).map (stampOf start) := by
      unfold withinL; rw [if_pos ⟨hm, h0, h1⟩, hfn]
    rw [hfn] at hC
    obtain ⟨r1, r2, r3, r4⟩ := crs_rows (dt (start / 1440).toNat) hm ⟨hl.2.1, hl.2.2.2⟩
    have hlb4 := heap_lt' hmn
    exact pwithin2_in (crs r (dt (start / 1440).toNat)) B1 B2 B3 B4 d1 d2 d3 d4 n l (W.heap.size + 2) w.heap.size W.heap.size b1 b2 b3 b4 (start / 1440).toNat fn (xOf w W) start (dfr (endS r to) (start % 1440)) (withinL r start from_ to)
      ((Okr.of hm).crs _) (by rw [(crs_same r _).2.2.1]; exact hm.1.2.2.2.2.1) (by omega) hsn (by omega) hld hn r1 r2 r3 r4 hT.symm
      (fun k h2 h3 h => by rcases h with h | h <;> omega) (fun k h2 h => by rcases h with h | h <;> (have := hB.size; omega)) ⟨hb4, hlb4, by omega⟩ J Jx hJ hJx hY V hV (hC.below hbV) (blk_below hmn hbV) hJ0
  · refine (pwithin_no r A1 A2 A3 A4 c1 c2 c3 c4 start from_ to hk w hr).mono ?_
    rintro e W ⟨rfl, hB⟩
    refine ⟨_, rfl, ?_, hB⟩
    rw [show withinL r start from_ to = [] by unfold withinL; rw [if_neg hk]]
    exact seq_no w W
end
end Go.Proofs.YtfjmofefciopmaaGreat
end
