/- The statement HoursWorks, walked. -/
import Derived.Test.YtkfmigpdmolmaaaHL2
namespace Go.Proofs.Ytkfmigpdmolmaaa
open Go.ChangeShapes Go.WideShapes Go.ChangeAt Go.RowKit Go.Joins Hr Zn Sp

theorem hasB_take {l : List Spn} {k : Nat} {s : Spn} (h : l[k]? = some s) (m : Int) : hasB (l.take (k + 1)) m = (hasB (l.take k) m || (decide (s.1 ≤ m) && decide (m < s.2))) := by
  unfold hasB
  rw [List.take_add_one, h, List.any_append]; simp

set_option maxRecDepth 100000 in
set_option maxHeartbeats 8000000 in
theorem hoursWorks_any (z : Z) (A : Option Addr) (c : Nat) (h : H) (A1 A2 : Option Addr) (c1 c2 : Nat) (utc ah be : Int) (hzw : ZWf z) (hu : -9223372036854775808 ≤ utc ∧ utc ≤ 9223372036854775807) (ha : 0 ≤ ah ∧ ah ≤ 65535) (hbe : 0 ≤ be ∧ be ≤ 65535) (w : World) (hz : ZAt w A z) (hs : HAt w h A1 A2 c1 c2) :
    Calls Try.prog 4 #[.agg #[.int .i64 z.base, .slice A z.n c], .agg #[.slice A1 h.shifts.length c1, .slice A2 h.off.length c2], .int .i64 utc, .int .u16 ah, .int .u16 be] w fun e w' => e = .returned (.bool true) ∧ Below w.heap.size w w' := by
  obtain ⟨W1, hW1⟩ : ∃ W1, (w.alloc (.cells #[.int .i64 z.base, .slice A z.n c] 24)).alloc (.cells #[.slice A1 h.shifts.length c1, .slice A2 h.off.length c2] 28) = W1 := ⟨_, rfl⟩
  have hW0 : Below w.heap.size w W1 := by rw [← hW1]; exact ((Below.refl _ _).alloc (Nat.le_refl _) _).alloc (by simp) _
  have hG : ∀ G : Gr W1, Below w.heap.size w G.val := fun G => hW0.trans (G.ok.mono hW0.size)
  have HGR := Lib.hid (fun G : Gr W1 => great12_any z A c h A1 A2 c1 c2 hzw.2.1 (Nat.le_trans hs.s1.le hs.s1.cap) (Nat.le_trans hs.s2.le hs.s2.cap) G.val)
  have HFX := Lib.hid (fun G : Gr W1 => fixed12_any G.val)
  have HM2 := Lib.hid (fun G : Gr W1 => rmay12_any h A1 A2 c1 c2 G.val (hs.below (hG G)))
  have HM3 := Lib.hid (fun G : Gr W1 => rzmay_any G.val A z c hzw (hz.below (hG G)))
  have HWK := Lib.hid (fun G : Gr W1 => pworks_any z A c h A1 A2 c1 c2 utc G.val hzw (hz.below (hG G)) (hs.below (hG G)))
  have HRW := Lib.hid (fun (hm : Hr.mayH h) (hp : mayP z) (G : Gr W1) => rworks_any z A c h A1 A2 c1 c2 utc G.val hu hm hp (hz.below (hG G)) (hs.below (hG G)))
  have HSP := Lib.hid (fun (a b : Int) (ha : -9223372036854775808 ≤ a ∧ a ≤ 9223372036854775807) (hb : -9223372036854775808 ≤ b ∧ b ≤ 9223372036854775807) (G : Gr W1) => pspans_any z A c h A1 A2 c1 c2 a b G.val ha hb hzw (hz.below (hG G)) (hs.below (hG G)))
  have HZ0 : Hid (∀ G : Gr W1, (G.val.cell? ⟨w.heap.size, 0, none⟩ = some (.int .i64 z.base) ∧ G.val.cell? ⟨w.heap.size, 1, none⟩ = some (.slice A z.n c) ∧ G.val.cell? ⟨w.heap.size + 1, 0, none⟩ = some (.slice A1 h.shifts.length c1) ∧ G.val.cell? ⟨w.heap.size + 1, 1, none⟩ = some (.slice A2 h.off.length c2))) := fun G => by
    refine ⟨cell_old ?_ G.ok, cell_old ?_ G.ok, cell_old ?_ G.ok, cell_old ?_ G.ok⟩
    all_goals (rw [← hW1]; simp [go_sem])
  have HG := Lib.hid hG
  have E1 := Lib.hid hW1
  obtain ⟨k1, k2, k3, k4⟩ := HZ0.out ⟨W1, Below.refl _ _⟩
  simp only at k1 k2 k3 k4
  have HMI := Lib.hid (Iff.intro (fun q : Hr.mayH h => may_yes q) (fun q : mayHB h = true => of_decide_eq_true q))
  have HZI := Lib.hid (may_iff (z := z))
  have HSB : Hid (∀ a b, winP12 a b → spansB z h a b utc = (mayHB h && mayB z && worksB h (Zn.off z) utc)) := fun a b q => by
    unfold spansB; rw [decide_eq_true q]; simp
  have HOUT : Hid (utc < -1099511627776 ∨ 1099511627776 < utc → (mayHB h && mayB z && worksB h (Zn.off z) utc) = false) := fun q => by
    rw [works_loc]
    rcases q with q | q
    · rw [decide_eq_false (show ¬ 0 ≤ utc by omega)]; simp
    · rw [decide_eq_false (show ¬ utc ≤ 158310719 by omega)]; simp
  have HI : Hid (mayHB h = true → mayB z = true → worksB h (Zn.off z) utc = (mayHB h && mayB z && worksB h (Zn.off z) utc)) := fun q1 q2 => by rw [q1, q2]; rfl
  have HNO : Hid (mayHB h = false ∨ mayB z = false → (mayHB h && mayB z && worksB h (Zn.off z) utc) = false) := fun q => by
    rcases q with q | q <;> rw [q] <;> simp
  generalize (mayHB h && mayB z && worksB h (Zn.off z) utc) = is at *
  generalize mayHB h = bh at *
  generalize Zn.mayB z = bz at *
  clear hW1 hW0 hG hs hz hzw
  by_cases hgr : 8 < z.n ∨ 20 < h.shifts.length ∨ 100 < h.off.length
  · rw [decide_eq_true hgr] at HGR
    clear hgr
    go_enter Try.func4, Try.ntmps4
    go_upto_region 1 with fail
    rw [E1.out]
    go_wp2_with fail
    go_at_call 8
    refine (HGR.out ⟨W1, Below.refl _ _⟩).mono ?_
    rintro e w2 ⟨rfl, hb⟩
    obtain ⟨g, rfl⟩ := Gr.of hb
    clear hb
    go_wp2_with fail
    go_at_call 9
    refine (HFX.out g).mono ?_
    rintro e w2 ⟨rfl, hb⟩
    obtain ⟨g2, rfl⟩ := g.on hb
    clear hb
    go_wp2_with fail
    go_ret
    exact ⟨rfl, HG.out g2⟩
  rw [decide_eq_false hgr] at HGR
  clear hgr
  have hrng : (utc < -1099511627776 ∨ 1099511627776 < utc) ∧ (decide (utc < -1099511627776) = true ∨ decide (utc < -1099511627776) = false ∧ decide (1099511627776 < utc) = true) ∨ (-1099511627776 ≤ utc ∧ utc ≤ 1099511627776) ∧ decide (utc < -1099511627776) = false ∧ decide (1099511627776 < utc) = false := by
    by_cases q1 : utc < -1099511627776
    · exact .inl ⟨.inl q1, .inl (decide_eq_true q1)⟩
    · by_cases q2 : 1099511627776 < utc
      · exact .inl ⟨.inr q2, .inr ⟨decide_eq_false q1, decide_eq_true q2⟩⟩
      · exact .inr ⟨⟨by omega, by omega⟩, decide_eq_false q1, decide_eq_false q2⟩
  have hways : (bh = false ∨ bh = true ∧ bz = false) ∨ bh = true ∧ bz = true := by cases bh <;> cases bz <;> simp
  rcases hrng with ⟨hout, hrng⟩ | ⟨hin, hr1, hr2⟩
  · have hi := HOUT.out hout
    subst hi
    clear hout HSP HSB HNO HOUT
    rcases hways with (rfl | ⟨rfl, rfl⟩) | ⟨rfl, rfl⟩
    all_goals
      try have HRW2 := Lib.hid (fun G => HRW.out (HMI.out.2 rfl) (HZI.out.1 rfl) G)
      try rw [HI.out rfl rfl] at HRW2
      clear HRW HI HMI HZI
      rcases hrng with hr1 | ⟨hr1, hr2⟩
      all_goals
        go_enter Try.func4, Try.ntmps4
        go_upto_region 1 with fail
        rw [E1.out]
        go_wp2_with fail
        go_at_call 8
        refine (HGR.out ⟨W1, Below.refl _ _⟩).mono ?_
        rintro e w2 ⟨rfl, hb⟩
        obtain ⟨g, rfl⟩ : ∃ g : Gr W1, w2 = g.val := ⟨⟨w2, hb⟩, rfl⟩
        clear hb k1 k2 k3 k4
        obtain ⟨k1, k2, k3, k4⟩ := HZ0.out g
        go_wp2_with fail
        go_at_call 11
        refine (HM2.out g).mono ?_
        rintro e w2 ⟨rfl, hb⟩
        obtain ⟨g2, rfl⟩ := g.on hb
        clear hb k1 k2 k3 k4
        obtain ⟨k1, k2, k3, k4⟩ := HZ0.out g2
        go_wp2_with fail
        try (
          go_at_call 13
          refine (HM3.out g2).mono ?_
          rintro e w2 ⟨rfl, hb⟩
          obtain ⟨g2, rfl⟩ := g2.on hb
          clear hb k1 k2 k3 k4
          obtain ⟨k1, k2, k3, k4⟩ := HZ0.out g2
          go_wp2_with fail)
        go_at_call 16
        refine (HWK.out g2).mono ?_
        rintro e w2 ⟨rfl, hb⟩
        obtain ⟨g3, rfl⟩ := g2.on hb
        clear hb k1 k2 k3 k4
        obtain ⟨k1, k2, k3, k4⟩ := HZ0.out g3
        go_wp2_with fail
        try (
          go_at_call 17
          refine (HRW2.out g3).mono ?_
          rintro e w2 ⟨rfl, hb⟩
          obtain ⟨g3, rfl⟩ := g3.on hb
          clear hb k1 k2 k3 k4
          obtain ⟨k1, k2, k3, k4⟩ := HZ0.out g3
          go_wp2_with fail)
        go_at_call 9
        refine (HFX.out g3).mono ?_
        rintro e w5 ⟨rfl, hb⟩
        obtain ⟨g4, rfl⟩ := Gr.on g3 hb
        clear hb
        go_wp2_with fail
        go_ret
        exact ⟨rfl, HG.out g4⟩
  · have hwa : IntKind.i64.wrap ah = ah := by rw [IntKind.wrap_i64]; omega
    have hwb : IntKind.i64.wrap be = be := by rw [IntKind.wrap_i64]; omega
    have hw1 : IntKind.i64.wrap (utc - ah) = utc - ah := by rw [IntKind.wrap_i64]; omega
    have hw2 : IntKind.i64.wrap (utc + 1) = utc + 1 := by rw [IntKind.wrap_i64]; omega
    have hw3 : IntKind.i64.wrap (utc + 1 + be) = utc + 1 + be := by rw [IntKind.wrap_i64]; omega
    have HS2 := Lib.hid (HSP.out (utc - ah) (utc + 1 + be) (by omega) (by omega))
    have HSE : Hid (spansB z h (utc - ah) (utc + 1 + be) utc = is) := HSB.out (utc - ah) (utc + 1 + be) ⟨by omega, by omega⟩
    have HIN : Hid (utc - ah ≤ utc ∧ utc < utc + 1 + be) := ⟨by omega, by omega⟩
    clear HSP HSB HOUT
    rcases hways with (rfl | ⟨rfl, rfl⟩) | ⟨rfl, rfl⟩
    all_goals
      try (have hi := HNO.out (by first | exact .inl rfl | exact .inr rfl); subst hi)
      try have HRW2 := Lib.hid (fun G => HRW.out (HMI.out.2 rfl) (HZI.out.1 rfl) G)
      try rw [HI.out rfl rfl] at HRW2
      clear HRW HI HMI HZI HNO
      go_enter Try.func4, Try.ntmps4
      go_upto_region 1 with fail
      rw [E1.out]
      go_wp2_with fail
      go_at_call 8
      refine (HGR.out ⟨W1, Below.refl _ _⟩).mono ?_
      rintro e w2 ⟨rfl, hb⟩
      obtain ⟨g, rfl⟩ : ∃ g : Gr W1, w2 = g.val := ⟨⟨w2, hb⟩, rfl⟩
      clear hb k1 k2 k3 k4
      obtain ⟨k1, k2, k3, k4⟩ := HZ0.out g
      go_wp2_with fail
      go_at_call 11
      refine (HM2.out g).mono ?_
      rintro e w2 ⟨rfl, hb⟩
      obtain ⟨g2, rfl⟩ := g.on hb
      clear hb k1 k2 k3 k4
      obtain ⟨k1, k2, k3, k4⟩ := HZ0.out g2
      go_wp2_with fail
      try (
        go_at_call 13
        refine (HM3.out g2).mono ?_
        rintro e w2 ⟨rfl, hb⟩
        obtain ⟨g2, rfl⟩ := g2.on hb
        clear hb k1 k2 k3 k4
        obtain ⟨k1, k2, k3, k4⟩ := HZ0.out g2
        go_wp2_with fail)
      go_at_call 16
      refine (HWK.out g2).mono ?_
      rintro e w2 ⟨rfl, hb⟩
      obtain ⟨g3, rfl⟩ := g2.on hb
      clear hb k1 k2 k3 k4
      obtain ⟨k1, k2, k3, k4⟩ := HZ0.out g3
      go_wp2_with fail
      try (
        go_at_call 17
        refine (HRW2.out g3).mono ?_
        rintro e w2 ⟨rfl, hb⟩
        obtain ⟨g3, rfl⟩ := g3.on hb
        clear hb k1 k2 k3 k4
        obtain ⟨k1, k2, k3, k4⟩ := HZ0.out g3
        go_wp2_with fail)
      go_at_call 12
      refine (HS2.out g3).mono ?_
      rintro e w6 ⟨l, ⟨Al, cl, rfl, hsl, hb⟩, hform, hhas⟩
      obtain ⟨g4, rfl⟩ := g3.on hb
      have HE : Hid (hasB l utc = spansB z h (utc - ah) (utc + 1 + be) utc) := by
        show _ = _
        have h2 := HIN.out
        rw [Bool.eq_iff_iff, hasB_iff, hhas]
        exact ⟨fun q => q.2.2, fun q => ⟨h2.1, h2.2, q⟩⟩
      have HSL := Lib.hid hsl
      have hlz : (l.length : Int) ≤ 9223372036854775807 := by have := hsl.le; have := hsl.cap; unfold maxLen at this; omega
      clear hb hsl hform hhas k1 k2 k3 k4 HS2 HIN hwa hwb hw1 hw2 hw3
      go_wp2_with fail
      go_loopw [13, 64] (fun s13 s64 wr => ∃ (k : Nat) (f : Bool) (g : Gr g4.val), wr = g.val ∧ s64 = .int .i64 k ∧ s13 = .bool f ∧ k ≤ l.length ∧ Hid (hasB (l.take k) utc = f)) (fun _ s64 _ => l.length - (intOf s64).toNat)
      case atStart => exact ⟨0, false, ⟨_, Below.refl _ _⟩, rfl, rfl, rfl, Nat.zero_le _, rfl⟩
      case round =>
        obtain ⟨k, f, g, rfl, rfl, rfl, hk, HF⟩ := hrel
        by_cases hlt : k < l.length
        · have hkz : (k : Int) < l.length := by omega
          have hwk : IntKind.i64.wrap ((k : Int) + 1) = k + 1 := by rw [IntKind.wrap_i64]; omega
          obtain ⟨s, hs⟩ : ∃ s, l[k]? = some s := ⟨_, List.getElem?_eq_getElem hlt⟩
          obtain ⟨b, off, rfl, hbs, q1, q2⟩ := (HSL.out.gr g).span hs
          have HN := Lib.hid (hasB_take hs utc)
          rw [HF.out] at HN
          obtain ⟨s1, s2⟩ := s
          simp only at q1 q2 HN
          obtain ⟨g2, hg2⟩ := g.up0 (o := .cells #[.int .i64 s1, .int .i64 s2] 30)
          have HG2 := Lib.hid hg2
          have hw4 : f = true ∨ f = false ∧ decide (s1 ≤ utc) = false ∨ f = false ∧ decide (s1 ≤ utc) = true ∧ decide (utc < s2) = false ∨ f = false ∧ decide (s1 ≤ utc) = true ∧ decide (utc < s2) = true := by cases f <;> cases decide (s1 ≤ utc) <;> cases decide (utc < s2) <;> simp
          clear hs hg2 HF
          rcases hw4 with rfl | ⟨rfl, e1⟩ | ⟨rfl, e1, e2⟩ | ⟨rfl, e1, e2⟩
          case inr.inr.inr =>
            have HN2 : Hid (hasB (l.take (k + 1)) utc = true) := by show _ = _; rw [HN.out, e1, e2]; rfl
            clear HN
            go_wp2_with fail
            go_roundw
            case rel => exact ⟨k + 1, true, g2, HG2.out, by go_num, rfl, hlt, HN2⟩
            case measure => simp [intOf]; omega
          case inl =>
            have HN2 : Hid (hasB (l.take (k + 1)) utc = true) := by show _ = _; rw [HN.out]; rfl
            clear HN
            go_wp2_with fail
            go_roundw
            case rel => exact ⟨k + 1, true, g2, HG2.out, by go_num, rfl, hlt, HN2⟩
            case measure => simp [intOf]; omega
          all_goals
            have HN2 : Hid (hasB (l.take (k + 1)) utc = false) := by show _ = _; rw [HN.out]; first | (rw [e1]; rfl) | (rw [e1, e2]; rfl)
            clear HN
            go_wp2_with fail
            go_roundw
            case rel => exact ⟨k + 1, false, g2, HG2.out, by go_num, rfl, hlt, HN2⟩
            case measure => simp [intOf]; omega
        · obtain rfl : k = l.length := by omega
          rw [List.take_length] at HF
          have hfe := (HF.out.symm.trans HE.out).trans HSE.out
          subst hfe
          obtain ⟨g5, hg5⟩ : ∃ g5 : Gr W1, g.val = g5.val := g4.on g.ok
          rw [hg5]
          clear hg5
          go_wp2_with fail
          go_at_call 9
          refine (HFX.out g5).mono ?_
          rintro e w7 ⟨rfl, hb⟩
          obtain ⟨g6, rfl⟩ := g5.on hb
          clear hb
          go_wp2_with fail
          go_ret
          exact ⟨by simp, HG.out g6⟩
end Go.Proofs.Ytkfmigpdmolmaaa
