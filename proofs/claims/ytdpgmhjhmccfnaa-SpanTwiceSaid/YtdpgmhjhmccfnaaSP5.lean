/- Contract of the program's rows of spans: whether a row is in its form. -/
import Derived.Test.YtdpgmhjhmccfnaaSP1
namespace Go.Proofs.Ytdpgmhjhmccfnaa
open Go.ChangeShapes Go.WideShapes Go.ChangeAt Go.RowKit Go.Joins Sp

/-- A row is in its form, span by span. -/
theorem form_step {l : List Spn} {i : Nat} {s : Spn} (h : form (l.take i)) (hs : l[i]? = some s) (h0 : s.1 < s.2) (h1 : ∀ k t, k + 1 = i → l[k]? = some t → t.2 < s.1) : form (l.take (i + 1)) := by
  rw [List.take_add_one, hs]
  refine (form_snoc _ _).2 ⟨h, fun t ht => ?_, h0⟩
  obtain ⟨k, hk⟩ := List.getElem?_of_mem ht
  have hki : k < i := by
    have := (List.getElem?_eq_some_iff.1 hk).1
    simp at this; omega
  obtain ⟨m, rfl⟩ : ∃ m, i = m + 1 := ⟨i - 1, by omega⟩
  have hi := (List.getElem?_eq_some_iff.1 hs).1
  obtain ⟨u, hu⟩ : ∃ u, l[m]? = some u := ⟨_, List.getElem?_eq_getElem (by omega)⟩
  have h2 := h1 m u rfl hu
  by_cases e : k = m
  · subst e
    rw [List.getElem?_take_of_lt (by omega)] at hk
    rw [hu] at hk; cases hk; exact h2
  · have hu2 : (l.take (m + 1))[m]? = some u := by rw [List.getElem?_take_of_lt (by omega)]; exact hu
    have h3 := form_at h hk hu2 (by omega)
    have h4 := at_pos h hu2
    omega

set_option maxRecDepth 100000 in
set_option maxHeartbeats 4000000 in
theorem pmay13_any (l : List Spn) (A : Option Addr) (c : Nat) (w : World) (hs : Sl w A l.length c (sv l)) :
    Calls Try.prog 12 #[.slice A l.length c] w fun e w' => e = .returned (.bool (decide (formL l = l))) ∧ Below w.heap.size w w' := by
  have hl : (l.length : Int) ≤ 9223372036854775807 := by have := hs.le; have := hs.cap; unfold maxLen at this; omega
  obtain ⟨r, hr⟩ : ∃ r, decide (formL l = l) = r := ⟨_, rfl⟩
  rw [hr]
  have HYES : Hid (form l → r = true) := fun h => by rw [← hr, decide_eq_true ((formL_iff l).2 h)]
  have HNO : Hid (¬ form l → r = false) := fun h => by rw [← hr, decide_eq_false (fun e => h ((formL_iff l).1 e))]
  have HS := Lib.hid hs
  clear hr hs
  go_enter Try.func12, Try.ntmps12
  go_wp2_with fail
  go_loopw [7] (fun s7 wr => ∃ (i : Nat) (g : Gr w), wr = g.val ∧ i ≤ l.length ∧ s7 = .int .i64 i ∧ Hid (form (l.take i))) (fun s7 _ => l.length - (intOf s7).toNat)
  case atStart => exact ⟨0, ⟨w, Below.refl _ _⟩, rfl, Nat.zero_le _, rfl, trivial⟩
  case round =>
    obtain ⟨i, g, rfl, hi, rfl, HI⟩ := hrel
    by_cases hlt : i < l.length
    · have hiz : (i : Int) < l.length := by omega
      have hw1 : IntKind.i64.wrap ((i : Int) + 1) = i + 1 := by rw [IntKind.wrap_i64]; omega
      obtain ⟨⟨s1, s2⟩, hs⟩ : ∃ s, l[i]? = some s := ⟨_, List.getElem?_eq_getElem hlt⟩
      obtain ⟨b, off, rfl, hbs, hcell⟩ := HS.out.spanG hs
      obtain ⟨p1, p2⟩ := hcell g
      obtain ⟨W1, hW1⟩ : ∃ W1, g.val.alloc (.cells #[.int .i64 s1, .int .i64 s2] 32) = W1 := ⟨_, rfl⟩
      have hB : Below g.val.heap.size g.val W1 := by rw [← hW1]; exact (Below.refl _ _).alloc (Nat.le_refl _) _
      have hblk : W1.heap[g.val.heap.size]? = some (.cells #[.int .i64 s1, .int .i64 s2] 32 (0, 0)) := by rw [← hW1]; exact heap_alloc_new _ _
      have q1 := blk_cell hblk (i := 0) rfl
      have q2 := blk_cell hblk (i := 1) rfl
      have E1 := Lib.hid hW1
      have hB1 : Below w.heap.size w W1 := g.ok.trans (hB.mono g.size)
      obtain ⟨G1, hG1⟩ : ∃ G1 : Gr w, W1 = G1.val := Gr.of hB1
      have HSS := Lib.hid hs
      have hcell2 := fun (m : Nat) (t : Spn) (h : l[m]? = some t) => HS.out.spanG h
      have hways : decide (s2 ≤ s1) = true ∧ r = false ∨ decide (s2 ≤ s1) = false ∧ i = 0 ∧ form (l.take (i + 1)) ∨ decide (s2 ≤ s1) = false ∧ ∃ (m : Nat) (t1 t2 : Int), i = m + 1 ∧ W1.cell? ⟨b, off + m * 2 + 1, none⟩ = some (.int .i64 t2) ∧ (decide (s1 ≤ t2) = true ∧ r = false ∨ decide (s1 ≤ t2) = false ∧ form (l.take (i + 1))) := by
        by_cases e1 : s2 ≤ s1
        · exact .inl ⟨decide_eq_true e1, HNO.out fun h => by have := at_pos h hs; dsimp only at this; omega⟩
        · right
          rcases Nat.eq_zero_or_pos i with h0 | h0
          · exact .inl ⟨decide_eq_false e1, h0, form_step HI.out hs (by dsimp only; omega) (fun k t hk => by omega)⟩
          · obtain ⟨m, rfl⟩ : ∃ m, i = m + 1 := ⟨i - 1, by omega⟩
            obtain ⟨⟨t1, t2⟩, ht⟩ : ∃ t, l[m]? = some t := ⟨_, List.getElem?_eq_getElem (by omega)⟩
            obtain ⟨b', off', e, _, hc⟩ := hcell2 m _ ht
            obtain ⟨rfl, rfl⟩ : b = b' ∧ off = off' := by simpa using e
            have := (hc G1).2
            rw [← hG1] at this
            refine .inr ⟨decide_eq_false e1, m, t1, t2, rfl, this, ?_⟩
            by_cases e2 : s1 ≤ t2
            · exact .inl ⟨decide_eq_true e2, HNO.out fun h => by have := form_at h ht hs (by omega); dsimp only at this; omega⟩
            · refine .inr ⟨decide_eq_false e2, form_step HI.out hs (by dsimp only; omega) (fun k t hk hkt => ?_)⟩
              obtain rfl : k = m := by omega
              rw [ht] at hkt; cases hkt
              dsimp only; omega
      have HB1 := Lib.hid hB1
      have hup : ∀ n, ∃ G : Gr w, W1.drewN n = G.val := fun n => ⟨⟨_, hB1.trans ((drewN_below _ _).mono hB1.size)⟩, rfl⟩
      have HUP := Lib.hid hup
      clear hs hcell hW1 hB hblk hB1 hcell2 hup hG1
      rcases hways with ⟨e1, hr⟩ | ⟨e1, rfl, hf⟩ | ⟨e1, m, t1, t2, rfl, c1, ⟨e2, hr⟩ | ⟨e2, hf⟩⟩
      · have E := Lib.hid hr
        clear hr
        go_upto_region 4 with fail
        rw [E1.out]
        go_wp2_with fail
        go_quiet (fail)
        obtain ⟨g2, hg2⟩ := HUP.out nq
        rw [hg2]
        go_wp2_with fail
        go_ret
        exact ⟨ret_bool E.out.symm, g2.ok⟩
      · simp only [Nat.zero_mul, Nat.add_zero] at p1 p2
        have hz : ¬ (0 : Int) < ((0 : Nat) : Int) := by omega
        have HN := Lib.hid hf
        clear hf
        go_upto_region 4 with fail
        rw [E1.out]
        go_wp2_with fail
        go_quiet (fail)
        obtain ⟨g2, hg2⟩ := HUP.out nq
        rw [hg2]
        go_wp2_with fail
        go_roundw
        case rel => exact ⟨0 + 1, g2, rfl, by omega, by go_num, HN.out⟩
        case measure => simp [intOf]; omega
      all_goals
        have hz : (0 : Int) < (m : Int) + 1 := by omega
        have hzb : decide ((0 : Int) < (m : Int) + 1) = true := decide_eq_true hz
        have hwk : IntKind.i64.wrap ((m : Int) + 1 - 1) = m := by rw [IntKind.wrap_i64]; omega
        have hml : (m : Int) < l.length := by omega
        have hm0 : (0 : Int) ≤ m := by omega
      · have E := Lib.hid hr
        clear hr
        go_upto_region 4 with fail
        rw [E1.out]
        go_wp2_with fail
        go_quiet (fail)
        obtain ⟨g2, hg2⟩ := HUP.out nq
        rw [hg2]
        go_wp2_with fail
        go_ret
        exact ⟨ret_bool E.out.symm, g2.ok⟩
      · have HN := Lib.hid hf
        clear hf
        go_upto_region 4 with fail
        rw [E1.out]
        go_wp2_with fail
        go_quiet (fail)
        obtain ⟨g2, hg2⟩ := HUP.out nq
        rw [hg2]
        go_wp2_with fail
        go_roundw
        case rel => exact ⟨m + 1 + 1, g2, rfl, by omega, by go_num, HN.out⟩
        case measure => simp [intOf]; omega
    · obtain rfl : i = l.length := by omega
      have hz : ¬ (l.length : Int) < l.length := by omega
      have E : Hid (r = true) := HYES.out (by have := HI.out; rwa [List.take_length] at this)
      go_wp2_with fail
      go_ret
      exact ⟨ret_bool E.out.symm, g.ok⟩
end Go.Proofs.Ytdpgmhjhmccfnaa
