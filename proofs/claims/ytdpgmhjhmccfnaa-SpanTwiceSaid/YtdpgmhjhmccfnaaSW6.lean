/- Contract of the document's rows: whether one is in its form. -/
import Derived.Test.YtdpgmhjhmccfnaaSW5
namespace Go.Proofs.Ytdpgmhjhmccfnaa
open Go.ChangeShapes Go.WideShapes Go.ChangeAt Go.RowKit Go.Joins Sp

set_option maxHeartbeats 1000000 in
theorem rmay_any (b : List Spn) (B : Option Addr) (d : Nat) (w : World) (hlb : b.length ≤ 1000) (hb : Sl w B b.length d (sv b)) :
    Calls Try.prog 13 #[.slice B b.length d] w fun e w' => e = .returned (.bool (decide (pair (cK 0) b [] = b))) ∧ Below w.heap.size w w' := by
  have HF := Lib.hid (rform_any b B d w hlb hb)
  generalize pair (cK 0) b [] = a at *
  have HB0 := Lib.hid hb
  clear hb
  obtain ⟨r, hr⟩ : ∃ r, decide (a = b) = r := ⟨_, rfl⟩
  rw [hr]
  have HR0 := Lib.hid hr
  clear hr
  go_enter Try.func13, Try.ntmps13
  go_wp2_with fail
  go_at_call 11
  refine HF.out.mono ?_
  rintro e1 w1 ⟨A, c, rfl, ha, hb1⟩
  obtain ⟨g0, rfl⟩ := Gr.of hb1
  have HA := Lib.hid ha
  have HB := Lib.hid (HB0.out.gr g0)
  have hlc : a.length ≤ 9223372036854775807 := Nat.le_trans ha.le ha.cap
  clear ha hb1 HB0 HF
  by_cases hl : a.length = b.length
  · have hlb' : ((a.length : Int) != (b.length : Int)) = false := by simp; omega
    have HR : Hid (decide (a.drop 0 = b.drop 0) = r) := HR0
    have HL := Lib.hid hl
    have hbc : b.length ≤ 9223372036854775807 := by omega
    clear hl
    go_wp2_with fail
    go_loopw [14] (fun s14 wr => ∃ (i : Nat) (g : Gr g0.val), wr = g.val ∧ i ≤ b.length ∧ s14 = .int .i64 i ∧ Hid (decide (a.drop i = b.drop i) = r)) (fun s14 _ => b.length - (intOf s14).toNat)
    case atStart => exact ⟨0, ⟨g0.val, Below.refl _ _⟩, rfl, Nat.zero_le _, rfl, HR⟩
    case round =>
      obtain ⟨i, g, rfl, hi, rfl, HI⟩ := hrel
      by_cases hltb : i < b.length
      · have hlt : i < a.length := by rw [HL.out]; exact hltb
        have hiz : (i : Int) < a.length := by omega
        have hib : (i : Int) < b.length := by omega
        obtain ⟨p, off, rfl, hp, c1, c2⟩ := (HA.out.gr g).span (List.getElem?_eq_getElem hlt)
        obtain ⟨q, off2, rfl, hq, d1, d2⟩ := (HB.out.gr g).span (List.getElem?_eq_getElem hltb)
        have hst : Hid (decide ((a[i].1 = b[i].1 ∧ a[i].2 = b[i].2) ∧ a.drop (i + 1) = b.drop (i + 1)) = r) := by show _ = _; rw [← HI.out, decide_eq_decide, drop_step hlt, drop_step hltb, same_cons]
        clear HI
        generalize a[i] = s at *
        generalize b[i] = t at *
        obtain ⟨x, y⟩ := s
        obtain ⟨u, v⟩ := t
        simp only at c1 c2 d1 d2 hst
        by_cases h1 : x = u
        · subst h1
          by_cases h2 : y = v
          · subst h2
            have E : Hid (decide (a.drop (i + 1) = b.drop (i + 1)) = r) := by show _ = _; rw [← hst.out, decide_eq_decide]; exact ⟨fun h => ⟨⟨rfl, rfl⟩, h⟩, fun h => h.2⟩
            clear hst
            go_wp2_with fail
            go_region
            go_wp2_with fail
            go_roundw
            case rel => exact ⟨i + 1, ⟨g.val.drew, g.ok.drew⟩, rfl, hltb, by go_num, E⟩
            case measure => simp [intOf]; omega
          · have E : Hid (r = false) := by show _ = _; rw [← hst.out, decide_eq_false_iff_not]; exact fun h => h2 h.1.2
            clear hst
            go_wp2_with fail
            go_region
            go_wp2_with fail
            go_ret
            exact ⟨ret_bool E.out.symm, g0.ok.trans (g.ok.drew.mono g0.size)⟩
        · have E : Hid (r = false) := by show _ = _; rw [← hst.out, decide_eq_false_iff_not]; exact fun h => h1 h.1.1
          clear hst
          go_wp2_with fail
          go_region
          go_wp2_with fail
          go_ret
          exact ⟨ret_bool E.out.symm, g0.ok.trans (g.ok.drew.mono g0.size)⟩
      · obtain rfl : i = b.length := by omega
        have E : Hid (r = true) := by show _ = _; rw [← HI.out, decide_eq_true_eq, List.drop_of_length_le (by rw [HL.out]; exact Nat.le_refl _), List.drop_of_length_le (Nat.le_refl _)]
        go_wp2_with fail
        go_ret
        exact ⟨ret_bool E.out.symm, g0.ok.trans (g.ok.mono g0.size)⟩
  · have hlb' : ((a.length : Int) != (b.length : Int)) = true := by simp; omega
    have E : Hid (r = false) := by show _ = _; rw [← HR0.out, decide_eq_false_iff_not]; exact fun h => hl (by rw [h])
    go_wp2
    go_ret
    exact ⟨ret_bool E.out.symm, g0.ok⟩
end Go.Proofs.Ytdpgmhjhmccfnaa
