import Derived.Test.YtbclfcghacedfaaGreatDoorZQW7
/- Contracts of the program's rules: the same ones. -/
section
namespace Go.Proofs.YtbclfcghacedfaaGreatDoor
open Go.ChangeShapes Go.WideShapes Go.ChangeAt Go.RowKit Qr Ck Sp

theorem eqI_any (a b : List Int) (A B : Option Addr) (c d : Nat) (w : World) (ha : Sl w A a.length c (iv a)) (hb : Sl w B b.length d (iv b)) :
    Calls Tryz.prog 42 #[.slice A a.length c, .slice B b.length d] w fun e w' => e = .returned (.bool (decide (a = b))) ∧ Below w.heap.size w w' := by
  have hlc : a.length ≤ 9223372036854775807 := Nat.le_trans ha.le ha.cap
  have HA := Lib.hid ha
  have HB := Lib.hid hb
  clear ha hb
  obtain ⟨r, hr⟩ : ∃ r, decide (a = b) = r := ⟨_, rfl⟩
  rw [hr]
  by_cases hl : a.length = b.length
  · have hlb : ((a.length : Int) != (b.length : Int)) = false := by simp; omega
    have HR : Hid (decide (a.drop 0 = b.drop 0) = r) := hr
    have HL := Lib.hid hl
    have hbc : b.length ≤ 9223372036854775807 := by omega
    clear hr hl
    go_enter Tryz.func42, Tryz.ntmps42
    go_wp2
    go_loopw [13] (fun s13 wr => ∃ (i : Nat) (g : Gr w), wr = g.val ∧ i ≤ a.length ∧ s13 = .int .i64 i ∧ Hid (decide (a.drop i = b.drop i) = r)) (fun s13 _ => a.length - (intOf s13).toNat)
    case atStart => exact ⟨0, ⟨w, Below.refl _ _⟩, rfl, Nat.zero_le _, rfl, HR⟩
    case round =>
      obtain ⟨i, g, rfl, hi, rfl, HI⟩ := hrel
      by_cases hlt : i < a.length
      · have hltb : i < b.length := by rw [← HL.out]; exact hlt
        have hiz : (i : Int) < a.length := by omega
        have hib : (i : Int) < b.length := by omega
        obtain ⟨p, off, rfl, hp, hc1⟩ := HA.out.intG (List.getElem?_eq_getElem hlt)
        obtain ⟨q, off2, rfl, hq, hd1⟩ := HB.out.intG (List.getElem?_eq_getElem hltb)
        have c1 := hc1 g
        have d1 := hd1 g
        clear hc1 hd1
        have hst : Hid (decide (a[i] = b[i] ∧ a.drop (i + 1) = b.drop (i + 1)) = r) := by show _ = _; rw [← HI.out, decide_eq_decide, drop_step hlt, drop_step hltb, List.cons.injEq]
        clear HI
        generalize a[i] = x at *
        generalize b[i] = u at *
        by_cases h1 : x = u
        · have h1b : (x != u) = false := by simpa using h1
          have E : Hid (decide (a.drop (i + 1) = b.drop (i + 1)) = r) := by show _ = _; rw [← hst.out, decide_eq_decide]; exact ⟨fun h => ⟨h1, h⟩, fun h => h.2⟩
          clear hst
          subst h1
          go_wp2_with fail
          try (go_region; go_wp2_with fail)
          go_roundw
          case rel => first | exact ⟨i + 1, ⟨g.val.drew, g.ok.drew⟩, rfl, hlt, by go_num, E⟩ | exact ⟨i + 1, g, rfl, hlt, by go_num, E⟩
          case measure => simp [intOf]; omega
        · have h1b : (x != u) = true := by simpa using h1
          have E : Hid (r = false) := by show _ = _; rw [← hst.out, decide_eq_false_iff_not]; exact fun h => h1 h.1
          clear hst
          go_wp2_with fail
          try (go_region; go_wp2_with fail)
          go_ret
          first | exact ⟨ret_bool E.out.symm, g.ok.drew⟩ | exact ⟨ret_bool E.out.symm, g.ok⟩
      · obtain rfl : i = a.length := by omega
        have E : Hid (r = true) := by show _ = _; rw [← HI.out, decide_eq_true_eq, List.drop_of_length_le (Nat.le_refl _), List.drop_of_length_le (by rw [HL.out]; exact Nat.le_refl _)]
        go_wp2_with fail
        go_ret
        exact ⟨ret_bool E.out.symm, g.ok⟩
  · have hlb : ((a.length : Int) != (b.length : Int)) = true := by simp; omega
    have E : Hid (r = false) := by show _ = _; rw [← hr, decide_eq_false_iff_not]; exact fun h => hl (by rw [h])
    clear hr
    go_enter Tryz.func42, Tryz.ntmps42
    go_wp2
    go_ret
    exact ⟨ret_bool E.out.symm, Below.refl _ _⟩

theorem eqD_any (a b : List Spn) (A B : Option Addr) (c d : Nat) (w : World) (ha : Sl w A a.length c (sv a)) (hb : Sl w B b.length d (sv b)) :
    Calls Tryz.prog 43 #[.slice A a.length c, .slice B b.length d] w fun e w' => e = .returned (.bool (decide (a = b))) ∧ Below w.heap.size w w' := by
  have hlc : a.length ≤ 9223372036854775807 := Nat.le_trans ha.le ha.cap
  have HA := Lib.hid ha
  have HB := Lib.hid hb
  clear ha hb
  obtain ⟨r, hr⟩ : ∃ r, decide (a = b) = r := ⟨_, rfl⟩
  rw [hr]
  by_cases hl : a.length = b.length
  · have hlb : ((a.length : Int) != (b.length : Int)) = false := by simp; omega
    have HR : Hid (decide (a.drop 0 = b.drop 0) = r) := hr
    have HL := Lib.hid hl
    have hbc : b.length ≤ 9223372036854775807 := by omega
    clear hr hl
    go_enter Tryz.func43, Tryz.ntmps43
    go_wp2
    go_loopw [13] (fun s13 wr => ∃ (i : Nat) (g : Gr w), wr = g.val ∧ i ≤ a.length ∧ s13 = .int .i64 i ∧ Hid (decide (a.drop i = b.drop i) = r)) (fun s13 _ => a.length - (intOf s13).toNat)
    case atStart => exact ⟨0, ⟨w, Below.refl _ _⟩, rfl, Nat.zero_le _, rfl, HR⟩
    case round =>
      obtain ⟨i, g, rfl, hi, rfl, HI⟩ := hrel
      by_cases hlt : i < a.length
      · have hltb : i < b.length := by rw [← HL.out]; exact hlt
        have hiz : (i : Int) < a.length := by omega
        have hib : (i : Int) < b.length := by omega
        obtain ⟨p, off, rfl, hp, hc1⟩ := HA.out.spanG (List.getElem?_eq_getElem hlt)
        obtain ⟨q, off2, rfl, hq, hd1⟩ := HB.out.spanG (List.getElem?_eq_getElem hltb)
        obtain ⟨c1, c2⟩ := hc1 g
        obtain ⟨d1, d2⟩ := hd1 g
        clear hc1 hd1
        have hst : Hid (decide (a[i] = b[i] ∧ a.drop (i + 1) = b.drop (i + 1)) = r) := by show _ = _; rw [← HI.out, decide_eq_decide, drop_step hlt, drop_step hltb, List.cons.injEq]
        clear HI
        generalize a[i] = x at *
        generalize b[i] = u at *
        obtain ⟨x1, x2⟩ := x
        obtain ⟨u1, u2⟩ := u
        simp only [Prod.mk.injEq] at c1 c2 d1 d2 hst
        by_cases h1 : x1 = u1 ∧ x2 = u2
        · have E : Hid (decide (a.drop (i + 1) = b.drop (i + 1)) = r) := by show _ = _; rw [← hst.out, decide_eq_decide]; exact ⟨fun h => ⟨h1, h⟩, fun h => h.2⟩
          clear hst
          obtain ⟨h1, h2⟩ := h1
          subst h1 h2
          go_wp2_with fail
          try (go_region; go_wp2_with fail)
          go_roundw
          case rel => first | exact ⟨i + 1, ⟨g.val.drew, g.ok.drew⟩, rfl, hlt, by go_num, E⟩ | exact ⟨i + 1, g, rfl, hlt, by go_num, E⟩
          case measure => simp [intOf]; omega
        · have E : Hid (r = false) := by show _ = _; rw [← hst.out, decide_eq_false_iff_not]; exact fun h => h1 h.1
          clear hst
          by_cases h2 : x1 = u1
          · have h3 : ¬ x2 = u2 := fun h => h1 ⟨h2, h⟩
            subst h2
            clear h1
            go_wp2_with fail
            try (go_region; go_wp2_with fail)
            go_ret
            first | exact ⟨ret_bool E.out.symm, g.ok.drew⟩ | exact ⟨ret_bool E.out.symm, g.ok⟩
          · clear h1
            go_wp2_with fail
            try (go_region; go_wp2_with fail)
            go_ret
            first | exact ⟨ret_bool E.out.symm, g.ok.drew⟩ | exact ⟨ret_bool E.out.symm, g.ok⟩
      · obtain rfl : i = a.length := by omega
        have E : Hid (r = true) := by show _ = _; rw [← HI.out, decide_eq_true_eq, List.drop_of_length_le (Nat.le_refl _), List.drop_of_length_le (by rw [HL.out]; exact Nat.le_refl _)]
        go_wp2_with fail
        go_ret
        exact ⟨ret_bool E.out.symm, g.ok⟩
  · have hlb : ((a.length : Int) != (b.length : Int)) = true := by simp; omega
    have E : Hid (r = false) := by show _ = _; rw [← hr, decide_eq_false_iff_not]; exact fun h => hl (by rw [h])
    clear hr
    go_enter Tryz.func43, Tryz.ntmps43
    go_wp2
    go_ret
    exact ⟨ret_bool E.out.symm, Below.refl _ _⟩
end Go.Proofs.YtbclfcghacedfaaGreatDoor
end
