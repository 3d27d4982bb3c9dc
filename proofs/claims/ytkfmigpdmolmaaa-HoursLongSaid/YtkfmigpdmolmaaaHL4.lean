/- The statement HoursLong, walked. -/
import Derived.Test.YtkfmigpdmolmaaaHL2
namespace Go.Proofs.Ytkfmigpdmolmaaa
open Go.ChangeShapes Go.WideShapes Go.ChangeAt Go.RowKit Go.Joins Hr Zn Sp

theorem formFrom_at : ∀ (l : List Spn) (lo : Int) (i : Nat) (s t : Spn), formFrom lo l → l[i]? = some s → l[i + 1]? = some t → s.2 < t.1
  | [], _, _, _, _, _, h, _ => by simp at h
  | [x], _, i, _, _, _, _, h => by simp at h
  | x :: y :: r, lo, 0, s, t, hf, h1, h2 => by
    simp at h1 h2
    subst h1 h2
    exact hf.2.2.1
  | x :: y :: r, lo, i + 1, s, t, hf, h1, h2 => formFrom_at (y :: r) x.2 i s t hf.2.2 (by simpa using h1) (by simpa using h2)
theorem form_at {l : List Spn} {i : Nat} {s t : Spn} (hf : form l) (h1 : l[i]? = some s) (h2 : l[i + 1]? = some t) : s.2 < t.1 := by
  cases l with
  | nil => simp at h1
  | cons x r => exact formFrom_at (x :: r) (x.1 - 1) i s t ⟨by omega, hf⟩ h1 h2
theorem long_at {z : Z} {h : H} {a b : Int} {l : List Spn} (hf : form l) (hh : ∀ x, has l x ↔ a ≤ x ∧ x < b ∧ spansB z h a b x = true) {k : Nat} {s : Spn} (hk : l[k]? = some s) : s.1 < s.2 ∧ a ≤ s.1 ∧ s.2 ≤ b ∧ 0 ≤ s.1 ∧ s.2 ≤ 158310720 := by
  have hm := List.mem_of_getElem? hk
  have h0 := mem_has hf hm
  have h1 := (hh s.1).1 ⟨s, hm, Int.le_refl _, h0⟩
  have h2 := (hh (s.2 - 1)).1 ⟨s, hm, by omega, by omega⟩
  have hw : ∀ x, spansB z h a b x = true → 0 ≤ x ∧ x ≤ 158310719 := fun x q => by
    unfold spansB at q
    simp only [works_loc, Bool.and_eq_true, decide_eq_true_eq] at q
    exact q.2.1
  have h3 := hw _ h1.2.2
  have h4 := hw _ h2.2.2
  omega

set_option maxRecDepth 100000 in
set_option maxHeartbeats 8000000 in
theorem hoursLong_any (z : Z) (A : Option Addr) (c : Nat) (h : H) (A1 A2 : Option Addr) (c1 c2 : Nat) (a b : Int) (hzw : ZWf z) (ha : -9223372036854775808 ≤ a ∧ a ≤ 9223372036854775807) (hb : -9223372036854775808 ≤ b ∧ b ≤ 9223372036854775807) (w : World) (hz : ZAt w A z) (hs : HAt w h A1 A2 c1 c2) :
    Calls Try.prog 5 #[.agg #[.int .i64 z.base, .slice A z.n c], .agg #[.slice A1 h.shifts.length c1, .slice A2 h.off.length c2], .agg #[.int .i64 a, .int .i64 b]] w fun e w' => e = .returned (.bool true) ∧ Below w.heap.size w w' := by
  obtain ⟨W1, hW1⟩ : ∃ W1, ((w.alloc (.cells #[.int .i64 z.base, .slice A z.n c] 24)).alloc (.cells #[.slice A1 h.shifts.length c1, .slice A2 h.off.length c2] 28)).alloc (.cells #[.int .i64 a, .int .i64 b] 30) = W1 := ⟨_, rfl⟩
  have hW0 : Below w.heap.size w W1 := by rw [← hW1]; exact (((Below.refl _ _).alloc (Nat.le_refl _) _).alloc (by simp) _).alloc (by simp; omega) _
  have hB1 : Bx12 W1 w.heap.size z A c A1 A2 h.shifts.length h.off.length c1 c2 a b := by rw [← hW1]; exact bx12_new _ _ _ _ _ _ _ _ _ _ _ _
  have hG : ∀ G : Gr W1, Below w.heap.size w G.val := fun G => hW0.trans (G.ok.mono hW0.size)
  have HFX := Lib.hid (fun G : Gr W1 => fixed12_any G.val)
  have HSP := Lib.hid (fun G : Gr W1 => pspans_any z A c h A1 A2 c1 c2 a b G.val ha hb hzw (hz.below (hG G)) (hs.below (hG G)))
  have HZ0 : Hid (∀ G : Gr W1, (G.val.cell? ⟨w.heap.size, 0, none⟩ = some (.int .i64 z.base) ∧ G.val.cell? ⟨w.heap.size, 1, none⟩ = some (.slice A z.n c) ∧ G.val.cell? ⟨w.heap.size + 1, 0, none⟩ = some (.slice A1 h.shifts.length c1) ∧ G.val.cell? ⟨w.heap.size + 1, 1, none⟩ = some (.slice A2 h.off.length c2) ∧ G.val.cell? ⟨w.heap.size + 2, 0, none⟩ = some (.int .i64 a) ∧ G.val.cell? ⟨w.heap.size + 2, 1, none⟩ = some (.int .i64 b))) := fun G => by
    obtain ⟨k1, k2, k3, k4, k5, k6, _⟩ := (hB1.below G.ok).cells
    exact ⟨k1, k2, k3, k4, k5, k6⟩
  have HG := Lib.hid hG
  have E1 := Lib.hid hW1
  obtain ⟨k1, k2, k3, k4, k5, k6⟩ := HZ0.out ⟨W1, Below.refl _ _⟩
  simp only at k1 k2 k3 k4 k5 k6
  have hzn : (z.n : Int) ≤ 9223372036854775807 := by have := hzw.2.1; omega
  clear hW1 hW0 hB1 hG hs hz hzw
  by_cases hgr : 50 < z.n
  · have hgz : decide ((50 : Int) < z.n) = true := decide_eq_true (by omega)
    clear hgr
    go_enter Try.func5, Try.ntmps5
    go_upto_region 1 with fail
    rw [E1.out]
    go_wp2_with fail
    go_at_call 9
    refine (HFX.out ⟨W1, Below.refl _ _⟩).mono ?_
    rintro e w2 ⟨rfl, hb⟩
    obtain ⟨g2, rfl⟩ : ∃ g : Gr W1, w2 = g.val := ⟨⟨w2, hb⟩, rfl⟩
    clear hb
    go_wp2_with fail
    go_ret
    exact ⟨rfl, HG.out g2⟩
  have hgz : decide ((50 : Int) < z.n) = false := decide_eq_false (by omega)
  have hways : (¬ winP12 a b ∧ (decide (b ≤ a) = true ∨ decide (b ≤ a) = false ∧ IntKind.u64.wrap (IntKind.u64.wrap b - IntKind.u64.wrap a) = b - a ∧ decide (527040 < b - a) = true)) ∨ winP12 a b ∧ decide (b ≤ a) = false ∧ IntKind.u64.wrap (IntKind.u64.wrap b - IntKind.u64.wrap a) = b - a ∧ decide (527040 < b - a) = false := by
    by_cases q1 : b ≤ a
    · exact .inl ⟨fun q => by have := q.1; omega, .inl (decide_eq_true q1)⟩
    · have qd := u64_diff12 ha hb (show a < b by omega)
      by_cases q2 : 527040 < b - a
      · exact .inl ⟨fun q => by have := q.2; omega, .inr ⟨decide_eq_false q1, qd, decide_eq_true q2⟩⟩
      · exact .inr ⟨⟨by omega, by omega⟩, decide_eq_false q1, qd, decide_eq_false q2⟩
  clear hgr
  have HAB := Lib.hid (And.intro ha hb)
  clear ha hb
  rcases hways with ⟨hno, hways⟩ | ⟨hwin, hd1, hd2, hd3⟩
  · have HNO : Hid (∀ l, form l → (∀ x, has l x ↔ a ≤ x ∧ x < b ∧ spansB z h a b x = true) → l = []) := fun l hf hx => form_empty hf fun x hh => by
      have := (hx x).1 hh
      rw [spansB_no (fun q => hno q.2.2)] at this
      exact absurd this.2.2 (by simp)
    clear hno
    rcases hways with hd1 | ⟨hd1, hd2, hd3⟩
    all_goals
      go_enter Try.func5, Try.ntmps5
      go_upto_region 1 with fail
      rw [E1.out]
      go_wp2_with fail
      go_at_call 12
      refine (HSP.out ⟨W1, Below.refl _ _⟩).mono ?_
      rintro e w3 ⟨l, ⟨Al, cl, rfl, hsl, hb⟩, hform, hhas⟩
      obtain ⟨g3, rfl⟩ : ∃ g : Gr W1, w3 = g.val := ⟨⟨w3, hb⟩, rfl⟩
      obtain rfl := HNO.out l hform hhas
      clear hb hsl hform hhas k1 k2 k3 k4 k5 k6
      obtain ⟨k1, k2, k3, k4, k5, k6⟩ := HZ0.out g3
      go_wp2_with fail
      go_at_call 9
      refine (HFX.out g3).mono ?_
      rintro e w2 ⟨rfl, hb⟩
      obtain ⟨g4, rfl⟩ := g3.on hb
      clear hb
      go_wp2_with fail
      go_ret
      exact ⟨rfl, HG.out g4⟩
  · go_enter Try.func5, Try.ntmps5
    go_upto_region 1 with fail
    rw [E1.out]
    go_wp2_with fail
    go_at_call 12
    refine (HSP.out ⟨W1, Below.refl _ _⟩).mono ?_
    rintro e w3 ⟨l, ⟨Al, cl, rfl, hsl, hb⟩, hform, hhas⟩
    obtain ⟨g3, hg3⟩ : ∃ g : Gr W1, w3 = g.val := ⟨⟨w3, hb⟩, rfl⟩
    subst hg3
    have HSL := Lib.hid hsl
    have HAT : Hid (∀ (k : Nat) (s : Spn), l[k]? = some s → s.1 < s.2 ∧ a ≤ s.1 ∧ s.2 ≤ b ∧ 0 ≤ s.1 ∧ s.2 ≤ 158310720) := fun k s q => long_at hform hhas q
    have HNX : Hid (∀ (k : Nat) (s t : Spn), l[k]? = some s → l[k + 1]? = some t → s.2 < t.1) := fun k s t q1 q2 => form_at hform q1 q2
    have hlz : (l.length : Int) ≤ 9223372036854775807 := by have := hsl.le; have := hsl.cap; unfold maxLen at this; omega
    clear hb hsl hform hhas k1 k2 k3 k4 k5 k6 hwin
    obtain ⟨k1, k2, k3, k4, k5, k6⟩ := HZ0.out g3
    go_wp2_with fail
    clear k1 k2 k3 k4 k5 k6
    go_loopw [42] (fun s42 wr => ∃ (k : Nat) (g : Gr g3.val), wr = g.val ∧ s42 = .int .i64 k ∧ k ≤ l.length) (fun s42 _ => l.length - (intOf s42).toNat)
    case atStart => exact ⟨0, ⟨_, Below.refl _ _⟩, rfl, rfl, Nat.zero_le _⟩
    case round =>
      obtain ⟨k, g, rfl, rfl, hk⟩ := hrel
      by_cases hlt : k < l.length
      · have hkz : (k : Int) < l.length := by omega
        have hwk : IntKind.i64.wrap ((k : Int) + 1) = k + 1 := by rw [IntKind.wrap_i64]; omega
        obtain ⟨s, hs⟩ : ∃ s, l[k]? = some s := ⟨_, List.getElem?_eq_getElem hlt⟩
        obtain ⟨bb, off, rfl, hbs, q1, q2⟩ := (HSL.out.gr g).span hs
        obtain ⟨p1, p2, p3, p4, p5⟩ := HAT.out k s hs
        have HPV : Hid (∀ j t, j + 1 = k → l[j]? = some t → t.2 < s.1) := fun j t e q => HNX.out j t s q (by rw [e]; exact hs)
        obtain ⟨s1, s2⟩ := s
        simp only at q1 q2 p1 p2 p3 p4 p5 HPV
        have d1 : decide (s2 ≤ s1) = false := decide_eq_false (by omega)
        have d2 : decide (s1 < a) = false := decide_eq_false (by omega)
        have d3 : decide (b < s2) = false := decide_eq_false (by omega)
        have d4 : decide (s1 < 0) = false := decide_eq_false (by omega)
        have d5 : decide (158310720 < s2) = false := decide_eq_false (by omega)
        obtain ⟨g2, hg2⟩ := g.up0 (o := .cells #[.int .i64 s1, .int .i64 s2] 30)
        have m0 : g2.val.cell? ⟨g.val.heap.size, 0, none⟩ = some (.int .i64 s1) := by rw [← hg2]; simp [go_sem]
        have m1 : g2.val.cell? ⟨g.val.heap.size, 1, none⟩ = some (.int .i64 s2) := by rw [← hg2]; simp [go_sem]
        have HG2 := Lib.hid hg2
        clear hs hg2 p1 p2 p3 p4 p5
        go_upto_region 9 with fail
        rw [HG2.out]
        obtain ⟨k1, k2, k3, k4, k5, k6⟩ : _ := HZ0.out ⟨g2.val, g3.ok.trans (g2.ok.mono g3.ok.size)⟩
        simp only at k1 k2 k3 k4 k5 k6
        rcases Nat.eq_zero_or_pos k with rfl | hk0
        · go_wp2_with fail
          go_quiet (fail)
          go_wp2_with fail
          go_roundw
          case rel => exact ⟨0 + 1, ⟨_, g2.ok.trans (drewN_below _ _ |>.mono g2.size)⟩, rfl, by go_num, by omega⟩
          case measure => simp [intOf]; omega
        · obtain ⟨j, rfl⟩ : ∃ j, k = j + 1 := ⟨k - 1, by omega⟩
          obtain ⟨t, ht⟩ : ∃ t, l[j]? = some t := ⟨_, List.getElem?_eq_getElem (by omega)⟩
          obtain ⟨b', off', eb, _, r1, r2⟩ := (HSL.out.gr g2).span ht
          obtain ⟨rfl, rfl⟩ : bb = b' ∧ off = off' := by simpa using eb
          have p6 := HPV.out j t rfl ht
          obtain ⟨t1, t2⟩ := t
          simp only at r1 r2 p6
          have d6 : decide (s1 ≤ t2) = false := decide_eq_false (by omega)
          have hj0 : (0 : Int) < (j : Int) + 1 := by omega
          have hj1 : IntKind.i64.wrap ((j : Int) + 1 - 1) = j := by rw [IntKind.wrap_i64]; omega
          have hj2 : (j : Int) < l.length := by omega
          clear ht HPV eb p6
          go_wp2_with fail
          go_quiet (fail)
          go_wp2_with fail
          go_roundw
          case rel => exact ⟨j + 1 + 1, ⟨_, g2.ok.trans (drewN_below _ _ |>.mono g2.size)⟩, rfl, by go_num, by omega⟩
          case measure => simp [intOf]; omega
      · obtain ⟨g5, hg5⟩ : ∃ g5 : Gr W1, g.val = g5.val := g3.on g.ok
        rw [hg5]
        clear hg5
        have hkz : ¬ (k : Int) < l.length := by omega
        go_wp2_with fail
        go_at_call 9
        refine (HFX.out g5).mono ?_
        rintro e w7 ⟨rfl, hb⟩
        obtain ⟨g6, rfl⟩ := g5.on hb
        clear hb
        go_wp2_with fail
        go_ret
        exact ⟨rfl, HG.out g6⟩
end Go.Proofs.Ytkfmigpdmolmaaa
