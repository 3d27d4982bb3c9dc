/- The statement HoursWeeks, walked. -/
import Derived.Test.YtkfmigpdmolmaaaHL2
import Derived.Test.YtkfmigpdmolmaaaHMath5
namespace Go.Proofs.Ytkfmigpdmolmaaa
open Go.ChangeShapes Go.WideShapes Go.ChangeAt Go.RowKit Go.Joins Hr Zn Sp

def zB (b : Int) : Z := ⟨b, 0, fun _ => 0, fun _ => 0⟩
theorem zB_wf {b : Int} (h : -900 ≤ b ∧ b ≤ 900) : ZWf (zB b) := ⟨⟨by show _ ≤ b; omega, by show b ≤ _; omega⟩, by show 0 ≤ _; omega, fun i hi => absurd hi (Nat.not_lt_zero _)⟩
theorem zB_may {b : Int} (h : -900 ≤ b ∧ b ≤ 900) : mayP (zB b) := ⟨h.1, h.2, by show (0 : Nat) ≤ 700; omega, fun i hi => absurd hi (Nat.not_lt_zero _)⟩
theorem zB_at (w : World) (b : Int) : ZAt w none (zB b) := fun hi => absurd hi (Nat.lt_irrefl _)
theorem zB_off (b : Int) : Zn.off (zB b) = fun _ => b := rfl

set_option maxRecDepth 100000 in
set_option maxHeartbeats 8000000 in
theorem hoursWeeks_any (bs d f t wk : Int) (hwk : 0 ≤ wk ∧ wk ≤ 65535) (w : World) :
    Calls Try.prog 7 #[.int .i64 bs, .agg #[.int .i64 d, .int .i64 f, .int .i64 t], .int .u16 wk] w fun e w' => e = .returned (.bool true) ∧ Below w.heap.size w w' := by
  obtain ⟨W1, hW1⟩ : ∃ W1, ((w.alloc (.cells #[.int .i64 d, .int .i64 f, .int .i64 t] 44)).alloc (.cells #[.int .i64 d, .int .i64 f, .int .i64 t] 44)).alloc (.cells #[.slice (some ⟨w.heap.size + 1, 0, none⟩) 1 1, .slice none 0 0] 28) = W1 := ⟨_, rfl⟩
  have hW0 : Below w.heap.size w W1 := by rw [← hW1]; exact (((Below.refl _ _).alloc (Nat.le_refl _) _).alloc (by simp) _).alloc (by simp; omega) _
  obtain ⟨h, hh⟩ : ∃ h : H, (⟨[(d, f, t)], []⟩ : H) = h := ⟨_, rfl⟩
  have hs : ∀ V : World, Below W1.heap.size W1 V → HAt V h (some ⟨w.heap.size + 1, 0, none⟩) none 1 0 := fun V q => by
    have h1 : Sl W1 (some ⟨w.heap.size + 1, 0, none⟩) 1 1 (tv [(d, f, t)]) := by
      rw [← hW1]
      have := Sl.new (w.alloc (.cells #[.int .i64 d, .int .i64 f, .int .i64 t] 44)) (tv [(d, f, t)]) 1 44 (0, 0) (by decide)
      rw [show (w.alloc (.cells #[.int .i64 d, .int .i64 f, .int .i64 t] 44)).heap.size = w.heap.size + 1 by simp] at this
      exact this.alloc _
    rw [← hh]
    exact ⟨h1.below q (Nat.le_refl _), Sl.none_ _⟩
  have hZ0 : ∀ V : World, Below W1.heap.size W1 V → V.cell? ⟨w.heap.size, 0, none⟩ = some (.int .i64 d) ∧ V.cell? ⟨w.heap.size, 1, none⟩ = some (.int .i64 f) ∧ V.cell? ⟨w.heap.size, 2, none⟩ = some (.int .i64 t) ∧ V.cell? ⟨w.heap.size + 2, 0, none⟩ = some (.slice (some ⟨w.heap.size + 1, 0, none⟩) 1 1) ∧ V.cell? ⟨w.heap.size + 2, 1, none⟩ = some (.slice none 0 0) := fun V hV => by
    refine ⟨cell_old ?_ hV, cell_old ?_ hV, cell_old ?_ hV, cell_old ?_ hV, cell_old ?_ hV⟩
    all_goals (rw [← hW1]; simp [go_sem])
  have hl1 : h.shifts.length = 1 := by rw [← hh]; rfl
  have hl2 : h.off.length = 0 := by rw [← hh]; rfl
  have HFX := Lib.hid (fun G : World => fixed12_any G)
  have HM : Hid (∀ V : World, Below W1.heap.size W1 V → Calls Try.prog 11 #[.agg #[.slice (some ⟨w.heap.size + 1, 0, none⟩) 1 1, .slice none 0 0]] V fun e w' => e = .returned (.bool (mayHB h)) ∧ Below V.heap.size V w') := fun V q => by
    have := rmay12_any h _ _ _ _ V (hs V q)
    rwa [hl1, hl2] at this
  have HSP : Hid (-900 ≤ bs ∧ bs ≤ 900 → ∀ (a b : Int), (-9223372036854775808 ≤ a ∧ a ≤ 9223372036854775807) → (-9223372036854775808 ≤ b ∧ b ≤ 9223372036854775807) → ∀ V : World, Below W1.heap.size W1 V → Calls Try.prog 12 #[.agg #[.int .i64 bs, .slice none 0 0], .agg #[.slice (some ⟨w.heap.size + 1, 0, none⟩) 1 1, .slice none 0 0], .agg #[.int .i64 a, .int .i64 b]] V (RetW a b (spansB (zB bs) h a b) V)) := fun hb a b ha hb2 V q => by
    have := pspans_any (zB bs) none 0 h _ _ _ _ a b V ha hb2 (zB_wf hb) (zB_at _ _) (hs V q)
    rwa [hl1, hl2] at this
  have HWK : Hid (-900 ≤ bs ∧ bs ≤ 900 → ∀ (u : Int) (V : World), Below W1.heap.size W1 V → Calls Try.prog 16 #[.agg #[.int .i64 bs, .slice none 0 0], .agg #[.slice (some ⟨w.heap.size + 1, 0, none⟩) 1 1, .slice none 0 0], .int .i64 u] V fun e w' => e = .returned (.bool (mayHB h && mayB (zB bs) && worksB h (Zn.off (zB bs)) u)) ∧ Below V.heap.size V w') := fun hb u V q => by
    have := pworks_any (zB bs) none 0 h _ _ _ _ u V (zB_wf hb) (zB_at _ _) (hs V q)
    rwa [hl1, hl2] at this
  have HOK : Hid (mayHB h = true → okS (d, f, t)) := fun q => by
    have := of_decide_eq_true q
    rw [← hh] at this
    exact this.2.2.1 _ (by simp)
  have HZ0 := Lib.hid hZ0
  have HH := Lib.hid hh
  have HW0 := Lib.hid hW0
  have E1 := Lib.hid hW1
  obtain ⟨k1, k2, k3, k4, k5⟩ := hZ0 W1 (Below.refl _ _)
  have hways : (decide (bs < -900) = true ∨ decide (bs < -900) = false ∧ decide (900 < bs) = true) ∨ (-900 ≤ bs ∧ bs ≤ 900) ∧ decide (bs < -900) = false ∧ decide (900 < bs) = false := by
    by_cases q1 : bs < -900
    · exact .inl (.inl (decide_eq_true q1))
    · by_cases q2 : 900 < bs
      · exact .inl (.inr ⟨decide_eq_false q1, decide_eq_true q2⟩)
      · exact .inr ⟨by omega, decide_eq_false q1, decide_eq_false q2⟩
  obtain ⟨bh, hbh⟩ : ∃ bh, mayHB h = bh := ⟨_, rfl⟩
  have HBH := Lib.hid hbh
  rw [hbh] at HM HOK
  clear hbh hh hs hW1 hW0 hZ0 hl1 hl2
  rcases hways with hways | ⟨hb, q1, q2⟩
  · rcases hways with q1 | ⟨q1, q2⟩
    all_goals
      go_enter Try.func7, Try.ntmps7
      go_upto_region 2 with fail
      rw [E1.out]
      go_wp2_with fail
      go_at_call 9
      refine (HFX.out W1).mono ?_
      rintro e w2 ⟨rfl, hb⟩
      obtain ⟨g, rfl⟩ : ∃ g : Gr W1, w2 = g.val := ⟨⟨w2, hb⟩, rfl⟩
      go_wp2_with fail
      go_ret
      exact ⟨rfl, HW0.out.trans (g.ok.mono HW0.out.size)⟩
  cases bh with
  | false =>
    go_enter Try.func7, Try.ntmps7
    go_upto_region 2 with fail
    rw [E1.out]
    go_wp2_with fail
    go_at_call 11
    refine (HM.out W1 (Below.refl _ _)).mono ?_
    rintro e w2 ⟨rfl, hb⟩
    obtain ⟨g, rfl⟩ : ∃ g : Gr W1, w2 = g.val := ⟨⟨w2, hb⟩, rfl⟩
    go_wp2_with fail
    go_at_call 9
    refine (HFX.out g.val).mono ?_
    rintro e w2 ⟨rfl, hb⟩
    obtain ⟨g2, rfl⟩ := g.on hb
    go_wp2_with fail
    go_ret
    exact ⟨rfl, HW0.out.trans (g2.ok.mono HW0.out.size)⟩
  | true =>
    have hok := HOK.out rfl
    have HOKS := Lib.hid hok
    unfold okS at hok
    simp only at hok
    obtain ⟨m, hm⟩ : ∃ m, wk % 15000 = m := ⟨_, rfl⟩
    have hmb : 0 ≤ m ∧ m < 15000 := by omega
    have hq : wk.tmod 15000 = m := by rw [Int.tmod_eq_emod_of_nonneg hwk.1, hm]
    have hq0 : IntKind.i64.wrap wk = wk := by rw [IntKind.wrap_i64]; omega
    obtain ⟨fr, hfr⟩ : ∃ fr, (2 + m) * 10080 = fr := ⟨_, rfl⟩
    have hfb : 20160 ≤ fr ∧ fr ≤ 151210080 := by omega
    have hSY : spansB (zB bs) h fr (fr + 10080) = worksB ⟨[(d, f, t)], []⟩ (fun _ => bs) := by
      have hmay : Hr.mayH h := of_decide_eq_true HBH.out
      rw [spansB_yes hmay (zB_may hb) ⟨by omega, by omega⟩, zB_off, HH.out]
    have HS2 := Lib.hid (HSP.out hb fr (fr + 10080) (by omega) (by omega))
    rw [hSY] at HS2
    obtain ⟨wf, hwf⟩ : ∃ wf, worksB ⟨[(d, f, t)], []⟩ (fun _ => bs) fr = wf := ⟨_, rfl⟩
    have hwe : ∀ u, worksB ⟨[(d, f, t)], []⟩ (fun _ => bs) u = wf → (mayHB h && mayB (zB bs) && worksB h (Zn.off (zB bs)) u) = wf := fun u q => by
      rw [HBH.out, may_iff.2 (zB_may hb), zB_off, ← HH.out, q]; rfl
    have HK1 : Hid (∀ V : World, Below W1.heap.size W1 V → Calls Try.prog 16 #[.agg #[.int .i64 bs, .slice none 0 0], .agg #[.slice (some ⟨w.heap.size + 1, 0, none⟩) 1 1, .slice none 0 0], .int .i64 fr] V fun e w' => e = .returned (.bool wf) ∧ Below V.heap.size V w') := fun V q => by
      have := HWK.out hb fr V q
      rwa [hwe fr hwf] at this
    have HK2 : Hid (∀ V : World, Below W1.heap.size W1 V → Calls Try.prog 16 #[.agg #[.int .i64 bs, .slice none 0 0], .agg #[.slice (some ⟨w.heap.size + 1, 0, none⟩) 1 1, .slice none 0 0], .int .i64 (fr + 10080)] V fun e w' => e = .returned (.bool wf) ∧ Below V.heap.size V w') := fun V q => by
      have := HWK.out hb (fr + 10080) V q
      rwa [hwe (fr + 10080) (by rw [week_turn ⟨by omega, by omega⟩]; exact hwf)] at this
    have hfr2 : IntKind.i64.wrap (fr + 10080) = fr + 10080 := by rw [IntKind.wrap_i64]; omega
    clear hSY hwe hwf hm HWK HSP HOK
    go_enter Try.func7, Try.ntmps7
    go_upto_region 2 with fail
    rw [E1.out]
    go_wp2_with fail
    go_at_call 11
    refine (HM.out W1 (Below.refl _ _)).mono ?_
    rintro e w2 ⟨rfl, hb⟩
    obtain ⟨g, hg⟩ : ∃ g : Gr W1, w2 = g.val := ⟨⟨w2, hb⟩, rfl⟩
    subst hg
    clear hb k1 k2 k3 k4 k5
    go_upto_region 6 with fail
    obtain ⟨W2, hW2⟩ : ∃ W2, g.val.alloc (.cells #[.int .i64 bs, .slice none 0 0] 24) = W2 := ⟨_, rfl⟩
    have hB2 : Below W1.heap.size W1 W2 := by rw [← hW2]; exact g.ok.alloc g.size _
    obtain ⟨zb, hzb⟩ : ∃ zb, g.val.heap.size = zb := ⟨_, rfl⟩
    have hzc : ∀ V : World, Below W2.heap.size W2 V → V.cell? ⟨zb, 0, none⟩ = some (.int .i64 bs) ∧ V.cell? ⟨zb, 1, none⟩ = some (.slice none 0 0) := fun V q => by
      refine ⟨cell_old ?_ q, cell_old ?_ q⟩
      all_goals (rw [← hW2, ← hzb]; simp [go_sem])
    rw [hW2, hzb]
    have HB2 := Lib.hid hB2
    have HZC := Lib.hid hzc
    clear hW2 hzb hB2 hzc
    have HCL : Hid (∀ V : World, Below W2.heap.size W2 V → (V.cell? ⟨w.heap.size, 0, none⟩ = some (.int .i64 d) ∧ V.cell? ⟨w.heap.size, 1, none⟩ = some (.int .i64 f) ∧ V.cell? ⟨w.heap.size, 2, none⟩ = some (.int .i64 t) ∧ V.cell? ⟨w.heap.size + 2, 0, none⟩ = some (.slice (some ⟨w.heap.size + 1, 0, none⟩) 1 1) ∧ V.cell? ⟨w.heap.size + 2, 1, none⟩ = some (.slice none 0 0)) ∧ V.cell? ⟨zb, 0, none⟩ = some (.int .i64 bs) ∧ V.cell? ⟨zb, 1, none⟩ = some (.slice none 0 0)) := fun V q => ⟨HZ0.out V (HB2.out.trans (q.mono HB2.out.size)), HZC.out V q⟩
    obtain ⟨⟨k1, k2, k3, k4, k5⟩, k6, k7⟩ := HCL.out W2 (Below.refl _ _)
    go_wp2_with fail
    go_at_call 12
    refine (HS2.out W2 HB2.out).mono ?_
    rintro e w3 ⟨l, ⟨Al, cl, rfl, hsl, hb3⟩, hform, hhas⟩
    obtain ⟨hlen, hbd⟩ := week_len (b := bs) HOKS.out ⟨by omega, by omega⟩ hform hhas
    simp only at hlen
    obtain ⟨N, hN⟩ : ∃ N, dysI d 7 * (t - f) = N := ⟨_, rfl⟩
    have hNb : 0 ≤ N ∧ N ≤ 10080 := by
      have h7 := dys_bd d 7
      rw [← hN]
      exact ⟨Int.mul_nonneg h7.1 (by omega), by have := Int.mul_le_mul h7.2 (show t - f ≤ 1440 by omega) (by omega) (by omega); omega⟩
    have HLE : Hid (len l = N) := by show _ = _; rw [hlen, hN]
    have HPT : Hid (∀ k : Nat, 0 ≤ len (l.take k) ∧ len (l.take k) ≤ N) := fun k => by
      have := len_part (fun s hs => (hbd s hs).1) k
      rw [← HLE.out]; exact this
    have HBD : Hid (∀ (k : Nat) (s : Spn), l[k]? = some s → s.1 < s.2 ∧ fr ≤ s.1 ∧ s.2 ≤ fr + 10080) := fun k s q => hbd s (List.mem_of_getElem? q)
    obtain ⟨g3, hg3⟩ : ∃ g3 : Gr W2, w3 = g3.val := ⟨⟨w3, hb3⟩, rfl⟩
    subst hg3
    have HSL := Lib.hid hsl
    have HN := Lib.hid hN
    have hlz : (l.length : Int) ≤ 9223372036854775807 := by have := hsl.le; have := hsl.cap; unfold maxLen at this; omega
    clear hb3 hsl hform hhas hlen hbd hN k1 k2 k3 k4 k5 k6 k7 HS2
    go_wp2_with fail
    go_loopw [10, 45] (fun s10 s45 wr => ∃ (k : Nat) (v : Int) (g : Gr g3.val), wr = g.val ∧ s45 = .int .i64 k ∧ s10 = .int .u64 v ∧ k ≤ l.length ∧ 0 ≤ v ∧ v ≤ N ∧ Hid (len (l.take k) = v)) (fun _ s45 _ => l.length - (intOf s45).toNat)
    case atStart => exact ⟨0, 0, ⟨_, Below.refl _ _⟩, rfl, rfl, rfl, Nat.zero_le _, Int.le_refl _, hNb.1, rfl⟩
    case round =>
      obtain ⟨k, v, g, rfl, rfl, rfl, hk, hv0, hv1, HV⟩ := hrel
      by_cases hlt : k < l.length
      · have hkz : (k : Int) < l.length := by omega
        have hwk1 : IntKind.i64.wrap ((k : Int) + 1) = k + 1 := by rw [IntKind.wrap_i64]; omega
        obtain ⟨s, hs⟩ : ∃ s, l[k]? = some s := ⟨_, List.getElem?_eq_getElem hlt⟩
        obtain ⟨bb, off, rfl, hbs, q1, q2⟩ := (HSL.out.gr g).span hs
        obtain ⟨p1, p2, p3⟩ := HBD.out k s hs
        have HT := Lib.hid (len_take hs)
        rw [HV.out] at HT
        have hp := HPT.out (k + 1)
        rw [HT.out] at hp
        obtain ⟨s1, s2⟩ := s
        simp only at q1 q2 p1 p2 p3 HT hp
        have w1 : IntKind.i64.wrap (s2 - s1) = s2 - s1 := by rw [IntKind.wrap_i64]; omega
        have w2 : IntKind.u64.wrap (s2 - s1) = s2 - s1 := by rw [IntKind.wrap_u64]; omega
        have w3 : IntKind.u64.wrap (v + (s2 - s1)) = v + (s2 - s1) := by rw [IntKind.wrap_u64]; omega
        obtain ⟨g2, hg2⟩ := g.up0 (o := .cells #[.int .i64 s1, .int .i64 s2] 30)
        have HG2 := Lib.hid hg2
        clear hs hg2
        go_wp2_with fail
        go_roundw
        case rel => exact ⟨k + 1, v + (s2 - s1), g2, HG2.out, by go_num, rfl, hlt, hp.1, hp.2, HT.out⟩
        case measure => simp [intOf]; omega
      · obtain rfl : k = l.length := by omega
        rw [List.take_length] at HV
        have hvN : v = N := by rw [← HV.out, HLE.out]
        subst hvN
        obtain ⟨g5, hg5⟩ : ∃ g5 : Gr W2, g.val = g5.val := g3.on g.ok
        rw [hg5]
        clear hg5
        obtain ⟨⟨k1, k2, k3, k4, k5⟩, k6, k7⟩ := HCL.out _ g5.ok
        go_wp2_with fail
        clear k1 k2 k3 k4 k5 k6 k7
        go_loopw [13, 58] (fun s13 s58 wr => ∃ (k : Nat), wr = g5.val ∧ s58 = .int .i64 k ∧ s13 = .int .i64 (dysI d k) ∧ k ≤ 7) (fun _ s58 _ => 7 - (intOf s58).toNat)
        case atStart => exact ⟨0, rfl, rfl, rfl, Nat.zero_le _⟩
        case round =>
          obtain ⟨k, rfl, rfl, rfl, hk7⟩ := hrel
          obtain ⟨⟨k1, k2, k3, k4, k5⟩, k6, k7⟩ := HCL.out _ g5.ok
          by_cases hlt7 : k < 7
          · have hkz : (k : Int) < 7 := by omega
            have h2 : 0 ≤ d / 2 ^ k := Int.ediv_nonneg (by omega) (Int.le_of_lt (Int.pow_pos (by decide)))
            have h3 : d / 2 ^ k ≤ d := Int.ediv_le_self _ (by omega)
            have hand : bits .and .i64 (d / 2 ^ k) 1 = (d / 2 ^ k) % 2 := and_one12 _ h2 (by omega)
            have hdy : Hid (dysI d k + d / 2 ^ k % 2 = dysI d (k + 1)) := rfl
            have hdb := dys_bd d k
            generalize dysI d k = dk at *
            have wd : IntKind.i64.wrap (dk + d / 2 ^ k % 2) = dk + d / 2 ^ k % 2 := by rw [IntKind.wrap_i64]; omega
            go_wp2_with fail
            go_roundw
            case rel => exact ⟨k + 1, by trivial, by go_num, by rw [hdy.out], by omega⟩
            case measure => simp [intOf]; omega
          · obtain rfl : k = 7 := by omega
            have hDb := dys_bd d 7
            have HNE := HN.out
            generalize dysI d 7 = D at *
            have wt : IntKind.i64.wrap (t - f) = t - f := by rw [IntKind.wrap_i64]; omega
            have wn : IntKind.i64.wrap (D * (t - f)) = v := by rw [HNE, IntKind.wrap_i64]; omega
            have wu : IntKind.u64.wrap v = v := by rw [IntKind.wrap_u64]; omega
            have HND := Lib.hid HNE
            have f0 : ∀ G : Gr W2, G.val.cell? ⟨w.heap.size, 1, none⟩ = some (.int .i64 f) := fun G => (HCL.out _ G.ok).1.2.1
            have f1 : ∀ G : Gr W2, G.val.cell? ⟨w.heap.size, 2, none⟩ = some (.int .i64 t) := fun G => (HCL.out _ G.ok).1.2.2.1
            have f2 : ∀ G : Gr W2, G.val.cell? ⟨w.heap.size + 2, 0, none⟩ = some (.slice (some ⟨w.heap.size + 1, 0, none⟩) 1 1) := fun G => (HCL.out _ G.ok).1.2.2.2.1
            have f3 : ∀ G : Gr W2, G.val.cell? ⟨w.heap.size + 2, 1, none⟩ = some (.slice none 0 0) := fun G => (HCL.out _ G.ok).1.2.2.2.2
            have f4 : ∀ G : Gr W2, G.val.cell? ⟨zb, 0, none⟩ = some (.int .i64 bs) := fun G => (HCL.out _ G.ok).2.1
            have f5 : ∀ G : Gr W2, G.val.cell? ⟨zb, 1, none⟩ = some (.slice none 0 0) := fun G => (HCL.out _ G.ok).2.2
            have HF6 : Hid (∀ G : Gr W2, Below W1.heap.size W1 G.val) := fun G => HB2.out.trans (G.ok.mono HB2.out.size)
            clear HNE k1 k2 k3 k4 k5 k6 k7
            go_wp2_with fail
            refine Gr.region (by kernel_rfl) (by kernel_rfl) (Gr.draw g5) ?_
            repeat (go_big_quiet_step (fail))
            go_big_quiet_step ((go_at_call 9; exact Gr.calls _ (HFX.out _)))
            repeat (go_big_quiet_step (fail))
            go_big_quiet_step ((go_at_call 16; exact Gr.calls _ (HK1.out _ (HF6.out _))))
            repeat (go_big_quiet_step (fail))
            go_big_quiet_step ((go_at_call 16; exact Gr.calls _ (HK2.out _ (HF6.out _))))
            repeat (go_big_quiet_step (fail))
            refine wpQuiet_nil ?_
            rintro _ ⟨g8, rfl⟩
            go_wp2_with fail
            go_ret
            exact ⟨by simp, HW0.out.trans ((HF6.out g8).mono HW0.out.size)⟩
end Go.Proofs.Ytkfmigpdmolmaaa
