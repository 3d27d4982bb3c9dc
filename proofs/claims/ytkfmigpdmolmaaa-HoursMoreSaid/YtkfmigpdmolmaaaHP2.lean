/- Contract of the program's hours: whether hours may be. -/
import Derived.Test.YtkfmigpdmolmaaaHP1
namespace Go.Proofs.Ytkfmigpdmolmaaa
open Go.ChangeShapes Go.WideShapes Go.ChangeAt Go.RowKit Hr Zn

theorem any_notok (l : List (Int × Int × Int)) : (!(l.any fun s => !(decide (okS s)))) = decide (∀ s ∈ l, okS s) := by
  rw [Bool.eq_iff_iff]
  simp

set_option maxRecDepth 100000 in
set_option maxHeartbeats 4000000 in
theorem pmay12_any (h : H) (A1 A2 : Option Addr) (c1 c2 : Nat) (w : World) (hs : HAt w h A1 A2 c1 c2) :
    Calls Try.prog 10 #[.agg #[.slice A1 h.shifts.length c1, .slice A2 h.off.length c2]] w fun e w' => e = .returned (.bool (mayHB h)) ∧ Below w.heap.size w w' := by
  have hl1 : (h.shifts.length : Int) ≤ 9223372036854775807 := by have := hs.s1.le; have := hs.s1.cap; unfold maxLen at this; omega
  have hl2 : (h.off.length : Int) ≤ 9223372036854775807 := by have := hs.s2.le; have := hs.s2.cap; unfold maxLen at this; omega
  obtain ⟨F0, F1⟩ := Gr.lay2 w (.slice A1 h.shifts.length c1) (.slice A2 h.off.length c2) 28
  have F0A := Gr.cellA F0
  have F1A := Gr.cellA F1
  by_cases hb : 10 < h.shifts.length ∨ 60 < h.off.length
  · have E := Lib.hid (may_no (h := h) (fun k => by have := k.1; have := k.2.1; omega))
    have hz : decide ((10 : Int) < h.shifts.length) = true ∨ decide ((10 : Int) < h.shifts.length) = false ∧ decide ((60 : Int) < h.off.length) = true := by
      by_cases h1 : 10 < h.shifts.length
      · exact .inl (decide_eq_true (by omega))
      · exact .inr ⟨decide_eq_false (by omega), decide_eq_true (by omega)⟩
    clear hb hs
    rcases hz with hz | ⟨hz, hz2⟩
    all_goals
      go_enter Try.func10, Try.ntmps10
      go_wp2_with fail
      go_ret
      exact ⟨ret_bool E.out.symm, (Below.refl _ _).alloc (Nat.le_refl _) _⟩
  have hz1 : decide ((10 : Int) < h.shifts.length) = false := decide_eq_false (by omega)
  have hz2 : decide ((60 : Int) < h.off.length) = false := decide_eq_false (by omega)
  have h10 : h.shifts.length ≤ 10 := by omega
  have h60 : h.off.length ≤ 60 := by omega
  have HS := Lib.hid hs
  obtain ⟨r, hr⟩ : ∃ r, mayHB h = r := ⟨_, rfl⟩
  rw [hr]
  have HR := Lib.hid hr
  have HC : Hid (∀ g : Gr w, Calls Try.prog 18 #[.slice A1 h.shifts.length c1, .func (.func 19) #[] #[]] g.val
      fun e w' => e = .returned (.bool (h.shifts.any fun s => !(decide (okS s)))) ∧ Below g.val.heap.size g.val w') := fun g =>
    pcontTM_any #[] (fun s => !(decide (okS s))) h.shifts A1 c1 g.val (hs.below g.ok).s1 (fun g2 s _ => mayC_any s g2.val)
  have HU : Hid (∀ g : Gr (w.alloc (.cells #[.slice A1 h.shifts.length c1, .slice A2 h.off.length c2] 28)), ∃ g' : Gr w, g'.val = g.val) := fun g => ⟨⟨_, g.below1⟩, rfl⟩
  clear hs hr hb
  go_enter Try.func10, Try.ntmps10
  go_wp2_with fail
  go_loopw [18] (fun s wr => ∃ (g : Gr (w.alloc (.cells #[.slice A1 h.shifts.length c1, .slice A2 h.off.length c2] 28))) (k : Nat), wr = g.val ∧ s = .int .i64 k ∧ k ≤ h.off.length ∧ Hid (∀ i, i < k → okO h.off i)) (fun s _ => (h.off.length - (intOf s).toNat))
  case atStart => exact ⟨⟨_, Below.refl _ _⟩, 0, rfl, rfl, Nat.zero_le _, fun i hi => absurd hi (Nat.not_lt_zero _)⟩
  case round =>
    obtain ⟨g, k, rfl, rfl, hk, HO⟩ := hrel
    by_cases hlt : k < h.off.length
    · have hkz : (k : Int) < h.off.length := by omega
      obtain ⟨x, hx⟩ : ∃ x, h.off[k]? = some x := ⟨_, List.getElem?_eq_getElem hlt⟩
      have HX : Hid (h.off.getD k 0 = x) := by show _ = _; rw [List.getD_eq_getElem?_getD, hx]; rfl
      obtain ⟨b, off, rfl, hbs, hce⟩ := (HS.out.below g.below1).s2.intG hx
      have g1 := hce ⟨_, Below.refl _ _⟩
      simp only at g1
      have HNO : Hid ((x < 0 ∨ 109937 < x ∨ 0 < k ∧ x ≤ h.off.getD (k - 1) 0) → r = false) := fun q => by
        rw [← HR.out]
        refine may_no fun p => ?_
        have p2 := p.2.2.2 k hlt
        unfold okO at p2
        rw [HX.out] at p2
        rcases q with q | q | q
        · omega
        · omega
        · have := p2.2.2 q.1; omega
      by_cases e1 : x < 0
      · have E : Hid (r = false) := HNO.out (.inl e1)
        have e1b : decide (x < 0) = true := decide_eq_true e1
        clear HNO
        go_wp2_with fail
        go_ret
        exact ⟨ret_bool E.out.symm, g.below1⟩
      have e1b : decide (x < 0) = false := decide_eq_false e1
      by_cases e2 : 109938 ≤ x
      · have E : Hid (r = false) := HNO.out (.inr (.inl (by omega)))
        have e2b : decide (109938 ≤ x) = true := decide_eq_true e2
        clear HNO
        go_wp2_with fail
        go_ret
        exact ⟨ret_bool E.out.symm, g.below1⟩
      have e2b : decide (109938 ≤ x) = false := decide_eq_false e2
      rcases Nat.eq_zero_or_pos k with rfl | hk0
      · have HN : Hid (∀ i, i < 0 + 1 → okO h.off i) := fun i hi => by
          obtain rfl : i = 0 := by omega
          unfold okO
          rw [HX.out]
          exact ⟨by omega, by omega, fun q => absurd q (Nat.lt_irrefl _)⟩
        have g1' : g.val.cell? ⟨b, off, none⟩ = some (.int .i64 x) := by simpa using g1
        clear HNO
        go_wp2_with fail
        go_roundw
        case rel => exact ⟨g, 0 + 1, rfl, by go_num, by omega, HN.out⟩
        case measure => simp [intOf]; omega
      · have hk0z : (0 : Int) < k := by omega
        have hk0b : decide ((0 : Int) < k) = true := decide_eq_true hk0z
        have hw1 : IntKind.i64.wrap ((k : Int) - 1) = ((k - 1 : Nat) : Int) := by rw [IntKind.wrap_i64]; omega
        have hk1 : ((k - 1 : Nat) : Int) < h.off.length := by omega
        obtain ⟨y, hy⟩ : ∃ y, h.off[k - 1]? = some y := ⟨_, List.getElem?_eq_getElem (by omega)⟩
        have HY : Hid (h.off.getD (k - 1) 0 = y) := by show _ = _; rw [List.getD_eq_getElem?_getD, hy]; rfl
        obtain ⟨b', off', eb, _, hce'⟩ := (HS.out.below g.below1).s2.intG hy
        obtain ⟨rfl, rfl⟩ : b = b' ∧ off = off' := by simpa using eb
        have g2 := hce' ⟨_, Below.refl _ _⟩
        simp only at g2
        have hk1e : (k : Int) - 1 = ((k - 1 : Nat) : Int) := by omega
        obtain ⟨j, hj⟩ : ∃ j, k - 1 = j := ⟨_, rfl⟩
        rw [hj] at hw1 hk1 g2 hk1e
        by_cases e3 : x ≤ y
        · have E : Hid (r = false) := HNO.out (.inr (.inr ⟨hk0, by rw [HY.out]; exact e3⟩))
          have e3b : decide (x ≤ y) = true := decide_eq_true e3
          clear HNO hj hy hce hce'
          go_wp2_with fail
          go_ret
          exact ⟨ret_bool E.out.symm, g.below1⟩
        · have e3b : decide (x ≤ y) = false := decide_eq_false e3
          have HN : Hid (∀ i, i < k + 1 → okO h.off i) := fun i hi => by
            by_cases ei : i = k
            · subst ei
              unfold okO
              rw [HX.out, HY.out]
              exact ⟨by omega, by omega, fun _ => by omega⟩
            · exact HO.out i (by omega)
          clear HNO hj hy hce hce'
          go_wp2_with fail
          go_roundw
          case rel => exact ⟨g, k + 1, rfl, by go_num, hlt, HN.out⟩
          case measure => simp [intOf]; omega
    · obtain rfl : k = h.off.length := by omega
      have E : Hid (r = !(h.shifts.any fun s => !(decide (okS s)))) := by
        show _ = _
        rw [any_notok, ← HR.out]
        unfold mayHB
        rw [Bool.eq_iff_iff, decide_eq_true_eq, decide_eq_true_eq]
        exact ⟨fun q => q.2.2.1, fun q => ⟨h10, h60, q, HO.out⟩⟩
      obtain ⟨g0, hg0⟩ := HU.out g
      have HC2 := Lib.hid (HC.out g0)
      rw [hg0] at HC2
      clear HC HO
      generalize (h.shifts.any fun s => !(decide (okS s))) = q at *
      go_wp2_with fail
      go_at_call 18
      refine HC2.out.mono ?_
      rintro e w' ⟨rfl, hb⟩
      obtain ⟨g2, rfl⟩ := g.on hb
      clear hb
      go_wp2_with fail
      go_ret
      exact ⟨ret_bool E.out.symm, g2.below1⟩
end Go.Proofs.Ytkfmigpdmolmaaa
