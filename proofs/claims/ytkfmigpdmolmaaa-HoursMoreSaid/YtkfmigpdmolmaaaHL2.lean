/- The statement HoursSpans, walked. -/
import Derived.Test.YtkfmigpdmolmaaaHL1
namespace Go.Proofs.Ytkfmigpdmolmaaa
open Go.ChangeShapes Go.WideShapes Go.ChangeAt Go.RowKit Go.Joins Hr Zn Sp

theorem form_empty {l : List Spn} (hf : form l) (h : ∀ x, ¬ has l x) : l = [] := by
  cases l with
  | nil => rfl
  | cons s r => exact absurd ⟨s, List.mem_cons_self, Int.le_refl _, hf.1⟩ (h s.1)
theorem bx12_new (w : World) (z : Z) (A : Option Addr) (c : Nat) (A1 A2 : Option Addr) (n1 n2 c1 c2 : Nat) (a b : Int) :
    Bx12 (((w.alloc (.cells #[.int .i64 z.base, .slice A z.n c] 24)).alloc (.cells #[.slice A1 n1 c1, .slice A2 n2 c2] 28)).alloc (.cells #[.int .i64 a, .int .i64 b] 30)) w.heap.size z A c A1 A2 n1 n2 c1 c2 a b := by
  refine ⟨?_, ?_, ?_⟩
  · rw [heap_alloc_old _ _ (by simp; omega), heap_alloc_old _ _ (by simp)]; exact heap_alloc_new _ _
  · rw [heap_alloc_old _ _ (by simp), show w.heap.size + 1 = (w.alloc (.cells #[.int .i64 z.base, .slice A z.n c] 24)).heap.size by simp]; exact heap_alloc_new _ _
  · rw [show w.heap.size + 2 = ((w.alloc (.cells #[.int .i64 z.base, .slice A z.n c] 24)).alloc (.cells #[.slice A1 n1 c1, .slice A2 n2 c2] 28)).heap.size by simp]; exact heap_alloc_new _ _

set_option maxRecDepth 100000 in
set_option maxHeartbeats 8000000 in
theorem hoursSpans_any (z : Z) (A : Option Addr) (c : Nat) (h : H) (A1 A2 : Option Addr) (c1 c2 : Nat) (a b : Int) (hzw : ZWf z) (ha : -9223372036854775808 ≤ a ∧ a ≤ 9223372036854775807) (hb : -9223372036854775808 ≤ b ∧ b ≤ 9223372036854775807) (w : World) (hz : ZAt w A z) (hs : HAt w h A1 A2 c1 c2) :
    Calls Try.prog 3 #[.agg #[.int .i64 z.base, .slice A z.n c], .agg #[.slice A1 h.shifts.length c1, .slice A2 h.off.length c2], .agg #[.int .i64 a, .int .i64 b]] w fun e w' => e = .returned (.bool true) ∧ Below w.heap.size w w' := by
  obtain ⟨W1, hW1⟩ : ∃ W1, ((w.alloc (.cells #[.int .i64 z.base, .slice A z.n c] 24)).alloc (.cells #[.slice A1 h.shifts.length c1, .slice A2 h.off.length c2] 28)).alloc (.cells #[.int .i64 a, .int .i64 b] 30) = W1 := ⟨_, rfl⟩
  have hW0 : Below w.heap.size w W1 := by rw [← hW1]; exact (((Below.refl _ _).alloc (Nat.le_refl _) _).alloc (by simp) _).alloc (by simp; omega) _
  have hB1 : Bx12 W1 w.heap.size z A c A1 A2 h.shifts.length h.off.length c1 c2 a b := by rw [← hW1]; exact bx12_new _ _ _ _ _ _ _ _ _ _ _ _
  have hG : ∀ G : Gr W1, Below w.heap.size w G.val := fun G => hW0.trans (G.ok.mono hW0.size)
  have HGR := Lib.hid (fun G : Gr W1 => great12_any z A c h A1 A2 c1 c2 hzw.2.1 (Nat.le_trans hs.s1.le hs.s1.cap) (Nat.le_trans hs.s2.le hs.s2.cap) G.val)
  have HFX := Lib.hid (fun G : Gr W1 => fixed12_any G.val)
  have HM1 := Lib.hid (fun G : Gr W1 => pmay12_any h A1 A2 c1 c2 G.val (hs.below (hG G)))
  have HM2 := Lib.hid (fun G : Gr W1 => rmay12_any h A1 A2 c1 c2 G.val (hs.below (hG G)))
  have HM3 := Lib.hid (fun G : Gr W1 => rzmay_any G.val A z c hzw (hz.below (hG G)))
  have HSP := Lib.hid (fun G : Gr W1 => pspans_any z A c h A1 A2 c1 c2 a b G.val ha hb hzw (hz.below (hG G)) (hs.below (hG G)))
  have HRS := Lib.hid (fun (G : Gr W1) (hm : Hr.mayH h) (hp : mayP z) (k1 : -4611686018427387904 ≤ a ∧ a ≤ 4611686018427387904) (k2 : -4611686018427387904 ≤ b ∧ b ≤ 4611686018427387904) (k3 : b - a ≤ 2000000) => rspans12_yes z A c h A1 A2 c1 c2 a b G.val hm hp hzw k1 k2 k3 (hz.below (hG G)) (hs.below (hG G)))
  have HZ0 : Hid (∀ G : Gr W1, (G.val.cell? ⟨w.heap.size, 0, none⟩ = some (.int .i64 z.base) ∧ G.val.cell? ⟨w.heap.size, 1, none⟩ = some (.slice A z.n c) ∧ G.val.cell? ⟨w.heap.size + 1, 0, none⟩ = some (.slice A1 h.shifts.length c1) ∧ G.val.cell? ⟨w.heap.size + 1, 1, none⟩ = some (.slice A2 h.off.length c2) ∧ G.val.cell? ⟨w.heap.size + 2, 0, none⟩ = some (.int .i64 a) ∧ G.val.cell? ⟨w.heap.size + 2, 1, none⟩ = some (.int .i64 b))) := fun G => by
    obtain ⟨k1, k2, k3, k4, k5, k6, _⟩ := (hB1.below G.ok).cells
    exact ⟨k1, k2, k3, k4, k5, k6⟩
  have HG := Lib.hid hG
  have E1 := Lib.hid hW1
  obtain ⟨k1, k2, k3, k4, k5, k6⟩ := HZ0.out ⟨W1, Below.refl _ _⟩
  simp only at k1 k2 k3 k4 k5 k6
  have HMI := Lib.hid (Iff.intro (fun q : Hr.mayH h => may_yes q) (fun q : mayHB h = true => of_decide_eq_true q))
  have HZI := Lib.hid (may_iff (z := z))
  have HSNO : Hid (mayHB h = false ∨ mayB z = false ∨ b ≤ a → ∀ l, form l → (∀ x, has l x ↔ a ≤ x ∧ x < b ∧ spansB z h a b x = true) → l = []) := fun q l hf hx => by
    refine form_empty hf fun x hh => ?_
    have := (hx x).1 hh
    rw [spansB] at this
    simp only [Bool.and_eq_true] at this
    rcases q with q | q | q
    · rw [q] at this; exact absurd this.2.2.1.1.1 (by simp)
    · rw [q] at this; exact absurd this.2.2.1.1.2 (by simp)
    · omega
  generalize mayHB h = bh at *
  generalize Zn.mayB z = bz at *
  clear hW1 hW0 hB1 hG hs hz hzw
  by_cases hgr : 8 < z.n ∨ 20 < h.shifts.length ∨ 100 < h.off.length
  · rw [decide_eq_true hgr] at HGR
    clear hgr
    go_enter Try.func3, Try.ntmps3
    go_upto_region 1 with fail
    rw [E1.out]
    go_wp2_with fail
    go_at_call 8
    refine (HGR.out ⟨W1, Below.refl _ _⟩).mono ?_
    rintro e w2 ⟨rfl, hb⟩
    obtain ⟨g, rfl⟩ := Gr.of hb
    clear hb
    go_wp2_with fail
    go_at_call 9
    refine (HFX.out g).mono ?_
    rintro e w2 ⟨rfl, hb⟩
    obtain ⟨g2, rfl⟩ := g.on hb
    clear hb
    go_wp2_with fail
    go_ret
    exact ⟨rfl, HG.out g2⟩
  rw [decide_eq_false hgr] at HGR
  clear hgr
  have HCELL := HZ0.out
  go_enter Try.func3, Try.ntmps3
  go_upto_region 1 with fail
  rw [E1.out]
  go_wp2_with fail
  go_at_call 8
  refine (HGR.out ⟨W1, Below.refl _ _⟩).mono ?_
  rintro e w2 ⟨rfl, hb⟩
  obtain ⟨g, rfl⟩ : ∃ g : Gr W1, w2 = g.val := ⟨⟨w2, hb⟩, rfl⟩
  clear hb k1 k2 k3 k4 k5 k6
  have f3 : ∀ G : Gr W1, G.val.cell? ⟨w.heap.size + 1, 0, none⟩ = some (.slice A1 h.shifts.length c1) := fun G => (HCELL G).2.2.1
  have f4 : ∀ G : Gr W1, G.val.cell? ⟨w.heap.size + 1, 1, none⟩ = some (.slice A2 h.off.length c2) := fun G => (HCELL G).2.2.2.1
  clear HCELL
  go_wp2_with fail
  refine Gr.region (by kernel_rfl) (by kernel_rfl) g.draw ?_
  repeat (go_big_quiet_step ((first
    | (go_at_call 10; exact Gr.calls _ (HM1.out _))
    | (go_at_call 11; exact Gr.calls _ (HM2.out _)))))
  refine wpQuiet_nil ?_
  rintro _ ⟨g2, rfl⟩
  clear f3 f4
  obtain ⟨k1, k2, k3, k4, k5, k6⟩ := HZ0.out g2
  go_wp2_with fail
  go_at_call 12
  refine (HSP.out g2).mono ?_
  rintro e w3 ⟨l, ⟨Al, cl, rfl, hsl, hb⟩, hform, hhas⟩
  obtain ⟨g3, rfl⟩ := g2.on hb
  have HSL := Lib.hid hsl
  have HFO := Lib.hid hform
  have HHA := Lib.hid hhas
  have hlz : (l.length : Int) ≤ 9223372036854775807 := by have := hsl.le; have := hsl.cap; unfold maxLen at this; omega
  clear hb hsl hform hhas k1 k2 k3 k4 k5 k6 HSP HM1
  obtain ⟨k1, k2, k3, k4, k5, k6⟩ := HZ0.out g3
  have hways : (bh = false ∨ bh = true ∧ bz = false ∨ bh = true ∧ bz = true ∧ decide (b ≤ a) = true) ∨ bh = true ∧ bz = true ∧ decide (b ≤ a) = false := by
    cases bh <;> cases bz <;> cases decide (b ≤ a) <;> simp
  rcases hways with hno | ⟨rfl, rfl, hab⟩
  · have hl : l = [] := HSNO.out (by rcases hno with q | q | q; exact .inl q; exact .inr (.inl q.2); exact .inr (.inr (of_decide_eq_true q.2.2))) l HFO.out HHA.out
    subst hl
    clear HSNO HSL HFO HHA HRS HMI HZI hlz
    rcases hno with rfl | ⟨rfl, rfl⟩ | ⟨rfl, rfl, hab⟩
    · go_wp2_with fail
      go_at_call 11
      refine (HM2.out g3).mono ?_
      rintro e w5 ⟨rfl, hb⟩
      obtain ⟨g4, rfl⟩ := Gr.on g3 hb
      clear hb k1 k2 k3 k4 k5 k6
      obtain ⟨k1, k2, k3, k4, k5, k6⟩ := HZ0.out g4
      go_wp2_with fail
      go_at_call 9
      refine (HFX.out g4).mono ?_
      rintro e w5 ⟨rfl, hb⟩
      obtain ⟨g5, rfl⟩ := Gr.on g4 hb
      clear hb k1 k2 k3 k4 k5 k6
      obtain ⟨k1, k2, k3, k4, k5, k6⟩ := HZ0.out g5
      go_wp2_with fail
      go_ret
      exact ⟨rfl, HG.out g5⟩
    all_goals
      go_wp2_with fail
      go_at_call 11
      refine (HM2.out g3).mono ?_
      rintro e w5 ⟨rfl, hb⟩
      obtain ⟨g4, rfl⟩ := Gr.on g3 hb
      clear hb k1 k2 k3 k4 k5 k6
      obtain ⟨k1, k2, k3, k4, k5, k6⟩ := HZ0.out g4
      go_wp2_with fail
      go_at_call 13
      refine (HM3.out g4).mono ?_
      rintro e w5 ⟨rfl, hb⟩
      obtain ⟨g5, rfl⟩ := Gr.on g4 hb
      clear hb k1 k2 k3 k4 k5 k6
      obtain ⟨k1, k2, k3, k4, k5, k6⟩ := HZ0.out g5
      go_wp2_with fail
      go_at_call 9
      refine (HFX.out g5).mono ?_
      rintro e w5 ⟨rfl, hb⟩
      obtain ⟨g6, rfl⟩ := Gr.on g5 hb
      clear hb k1 k2 k3 k4 k5 k6
      obtain ⟨k1, k2, k3, k4, k5, k6⟩ := HZ0.out g6
      go_wp2_with fail
      go_ret
      exact ⟨rfl, HG.out g6⟩
  · have hm : Hr.mayH h := HMI.out.2 rfl
    have hp : mayP z := HZI.out.1 rfl
    have hab2 : a < b := by have := of_decide_eq_false hab; omega
    have hways : decide (a < -1073741824) = true ∨ decide (a < -1073741824) = false ∧ decide (1073741824 < b) = true ∨ decide (a < -1073741824) = false ∧ decide (1073741824 < b) = false ∧ IntKind.i64.wrap (b - a) = b - a ∧ decide (57600 < b - a) = true ∨ decide (a < -1073741824) = false ∧ decide (1073741824 < b) = false ∧ IntKind.i64.wrap (b - a) = b - a ∧ decide (57600 < b - a) = false := by
      by_cases q1 : a < -1073741824
      · exact .inl (decide_eq_true q1)
      · by_cases q2 : 1073741824 < b
        · exact .inr (.inl ⟨decide_eq_false q1, decide_eq_true q2⟩)
        · have qw : IntKind.i64.wrap (b - a) = b - a := by rw [IntKind.wrap_i64]; omega
          by_cases q3 : 57600 < b - a
          · exact .inr (.inr (.inl ⟨decide_eq_false q1, decide_eq_false q2, qw, decide_eq_true q3⟩))
          · exact .inr (.inr (.inr ⟨decide_eq_false q1, decide_eq_false q2, qw, decide_eq_false q3⟩))
    have HAB := Lib.hid hab2
    have HMH := Lib.hid hm
    have HPH := Lib.hid hp
    clear hm hp hab2 HMI HZI HSNO
    rcases hways with q1 | ⟨q1, q2⟩ | ⟨q1, q2, qw, q3⟩ | ⟨q1, q2, qw, q3⟩
    case inr.inr.inr =>
      have HR2 : Hid (∀ G : Gr W1, Calls Try.prog 15 #[.agg #[.int .i64 z.base, .slice A z.n c], .agg #[.slice A1 h.shifts.length c1, .slice A2 h.off.length c2], .agg #[.int .i64 a, .int .i64 b]] G.val (RetS l G.val)) := fun G => by
        have q1 := of_decide_eq_false q1
        have q2 := of_decide_eq_false q2
        have q3 := of_decide_eq_false q3
        have q4 := HAB.out
        refine (HRS.out G HMH.out HPH.out (by omega) (by omega) (by omega)).mono ?_
        rintro e w' ⟨l', hr, hf', hh'⟩
        have hx := HHA.out
        rw [spansB_yes HMH.out HPH.out (show winP12 a b from ⟨q4, by omega⟩)] at hx
        obtain rfl := form_unique l l' HFO.out hf' (fun x => by rw [hx, hh'])
        exact hr
      clear HRS HHA HFO
      go_wp2_with fail
      go_at_call 11
      refine (HM2.out g3).mono ?_
      rintro e w5 ⟨rfl, hb⟩
      have HSL := Lib.hid (HSL.out.below hb (Nat.le_refl _))
      obtain ⟨g4, rfl⟩ := Gr.on g3 hb
      clear hb k1 k2 k3 k4 k5 k6
      obtain ⟨k1, k2, k3, k4, k5, k6⟩ := HZ0.out g4
      go_wp2_with fail
      go_at_call 13
      refine (HM3.out g4).mono ?_
      rintro e w5 ⟨rfl, hb⟩
      have HSL := Lib.hid (HSL.out.below hb (Nat.le_refl _))
      obtain ⟨g5, rfl⟩ := Gr.on g4 hb
      clear hb k1 k2 k3 k4 k5 k6
      obtain ⟨k1, k2, k3, k4, k5, k6⟩ := HZ0.out g5
      go_wp2_with fail
      go_at_call 9
      refine (HFX.out g5).mono ?_
      rintro e w5 ⟨rfl, hb⟩
      have HSL := Lib.hid (HSL.out.below hb (Nat.le_refl _))
      obtain ⟨g6, rfl⟩ := Gr.on g5 hb
      clear hb k1 k2 k3 k4 k5 k6
      obtain ⟨k1, k2, k3, k4, k5, k6⟩ := HZ0.out g6
      go_wp2_with fail
      go_at_call 15
      refine (HR2.out g6).mono ?_
      rintro e w7 ⟨Ar, cr, rfl, hsr, hb⟩
      have HSA := Lib.hid (rsame_any l l Al Ar cl cr w7 (HSL.out.below hb (Nat.le_refl _)) hsr)
      rw [decide_eq_true rfl] at HSA
      obtain ⟨g7, rfl⟩ := Gr.on g6 hb
      clear hb k1 k2 k3 k4 k5 k6 hsr
      go_wp2_with fail
      go_at_call 14
      refine HSA.out.mono ?_
      rintro e w8 ⟨rfl, hb⟩
      obtain ⟨g8, rfl⟩ := Gr.on g7 hb
      clear hb
      go_wp2_with fail
      go_ret
      exact ⟨rfl, HG.out g8⟩
    all_goals
      clear HRS HHA HFO HSL
      go_wp2_with fail
      go_at_call 11
      refine (HM2.out g3).mono ?_
      rintro e w5 ⟨rfl, hb⟩
      obtain ⟨g4, rfl⟩ := Gr.on g3 hb
      clear hb k1 k2 k3 k4 k5 k6
      obtain ⟨k1, k2, k3, k4, k5, k6⟩ := HZ0.out g4
      go_wp2_with fail
      go_at_call 13
      refine (HM3.out g4).mono ?_
      rintro e w5 ⟨rfl, hb⟩
      obtain ⟨g5, rfl⟩ := Gr.on g4 hb
      clear hb k1 k2 k3 k4 k5 k6
      obtain ⟨k1, k2, k3, k4, k5, k6⟩ := HZ0.out g5
      go_wp2_with fail
      go_at_call 9
      refine (HFX.out g5).mono ?_
      rintro e w5 ⟨rfl, hb⟩
      obtain ⟨g6, rfl⟩ := Gr.on g5 hb
      clear hb k1 k2 k3 k4 k5 k6
      obtain ⟨k1, k2, k3, k4, k5, k6⟩ := HZ0.out g6
      go_wp2_with fail
      go_ret
      exact ⟨rfl, HG.out g6⟩
end Go.Proofs.Ytkfmigpdmolmaaa
