/- Contracts of the document's hours: bits; whether a minute is worked. -/
import Derived.Test.YtkfmigpdmolmaaaHW1
import Derived.Test.YtkfmigpdmolmaaaZW6
import Derived.Deep.Cut
namespace Go.Proofs.Ytkfmigpdmolmaaa
open Go.ChangeShapes Go.WideShapes Go.ChangeAt Go.RowKit Hr Zn

theorem rbit_any (n : Int) (k : Nat) (hn : 0 ≤ n) (hn2 : n ≤ 1000000) (hk : k ≤ 62) (w : World) :
    Calls Try.prog 37 #[.int .i64 n, .int .i64 k] w fun e w' => e = .returned (.bool (bitB n k)) ∧ w = w' := by
  have hkz : (k : Int) ≤ 62 := by omega
  go_enter Try.func37, Try.ntmps37
  go_wp2_with fail
  go_loop [0, 5] (fun s0 s5 => ∃ (i : Nat) (m : Int), i ≤ k ∧ s5 = .int .i64 i ∧ s0 = .int .i64 m ∧ 0 ≤ m ∧ m ≤ n ∧ Hid (m = n / 2 ^ i)) (fun _ s5 => k - (intOf s5).toNat)
  case atStart => exact ⟨0, n, Nat.zero_le _, rfl, rfl, hn, Int.le_refl _, by show _ = _; simp⟩
  case round =>
    obtain ⟨i, m, hi, rfl, rfl, hm, hmn, HM⟩ := hrel
    by_cases hlt : i < k
    · have hiz : (i : Int) < k := by omega
      have hq : m.tdiv 2 = m / 2 := Int.tdiv_eq_ediv_of_nonneg hm
      have hb0 : 0 ≤ m / 2 := by omega
      have hb1 : m / 2 ≤ 1000000 := by omega
      have hw : IntKind.i64.wrap (m / 2) = m / 2 := by rw [IntKind.wrap_i64]; omega
      have HN : Hid (m / 2 = n / 2 ^ (i + 1)) := by show _ = _; rw [HM.out, Int.ediv_ediv_of_nonneg (by exact Int.le_of_lt (Int.pow_pos (by decide))), ← Int.pow_succ]
      go_wp2_with fail
      go_round
      case rel => exact ⟨i + 1, m / 2, hlt, by go_num, rfl, by omega, by omega, HN.out⟩
      case measure => simp [intOf]; omega
    · obtain rfl : i = k := by omega
      have hq : m.tmod 2 = m % 2 := Int.tmod_eq_emod_of_nonneg hm
      have E : Hid (bitB n i = decide (m % 2 = 1)) := by show _ = _; rw [HM.out]; rfl
      go_wp2_with fail
      go_ret
      exact ⟨ret_bool (by rw [E.out, Bool.eq_iff_iff]; simp), rfl⟩

theorem any_take {α : Type} (p : α → Bool) (l : List α) (k : Nat) (x : α) (h : l[k]? = some x) : (l.take (k + 1)).any p = ((l.take k).any p || p x) := by
  rw [List.take_add_one, h, List.any_append]; simp
theorem any_of {α : Type} (p : α → Bool) (l : List α) (k : Nat) (x : α) (h : l[k]? = some x) (hp : p x = true) : l.any p = true := List.any_eq_true.2 ⟨x, List.mem_of_getElem? h, hp⟩

set_option maxRecDepth 100000 in
set_option maxHeartbeats 4000000 in
theorem rworks_any (z : Z) (A : Option Addr) (c : Nat) (h : H) (A1 A2 : Option Addr) (c1 c2 : Nat) (utc : Int) (w : World) (hu : -9223372036854775808 ≤ utc ∧ utc ≤ 9223372036854775807) (hm : Hr.mayH h) (hzm : Zn.mayP z) (hz : ZAt w A z) (hs : HAt w h A1 A2 c1 c2) :
    Calls Try.prog 17 #[.agg #[.int .i64 z.base, .slice A z.n c], .agg #[.slice A1 h.shifts.length c1, .slice A2 h.off.length c2], .int .i64 utc] w fun e w' => e = .returned (.bool (worksB h (Zn.off z) utc)) ∧ Below w.heap.size w w' := by
  have hW0 : Below w.heap.size w ((w.alloc (.cells #[.int .i64 z.base, .slice A z.n c] 24)).alloc (.cells #[.slice A1 h.shifts.length c1, .slice A2 h.off.length c2] 28)) := ((Below.refl _ _).alloc (Nat.le_refl _) _).alloc (by simp) _
  by_cases hr : utc < 0 ∨ 158310719 < utc
  · have E : Hid (worksB h (Zn.off z) utc = false) := by
      show _ = _
      unfold worksB
      rcases hr with h | h
      · rw [decide_eq_false (show ¬ 0 ≤ utc by omega)]; rfl
      · rw [decide_eq_false (show ¬ utc ≤ 158310719 by omega)]; simp
    have hd : decide (utc < 0) = true ∨ decide (utc < 0) = false ∧ decide (158310719 < utc) = true := by
      by_cases h1 : utc < 0
      · exact .inl (decide_eq_true h1)
      · exact .inr ⟨decide_eq_false h1, decide_eq_true (by omega)⟩
    have HW0 := Lib.hid hW0
    clear hr hz hs hW0
    rcases hd with hd | ⟨hd, hd2⟩
    all_goals
      go_enter Try.func17, Try.ntmps17
      go_wp2_with fail
      go_ret
      exact ⟨ret_bool E.out.symm, HW0.out⟩
  have hd1 : decide (utc < 0) = false := decide_eq_false (by omega)
  have hd2 : decide (158310719 < utc) = false := decide_eq_false (by omega)
  obtain ⟨o, ho⟩ : ∃ o, Zn.off z utc = o := ⟨_, rfl⟩
  have hob := off_bd hzm utc
  rw [ho] at hob
  obtain ⟨lc, hlc⟩ : ∃ lc, utc + o + 10080 = lc := ⟨_, rfl⟩
  have hlb : 0 ≤ lc ∧ lc ≤ 158400000 := by omega
  obtain ⟨day, hday⟩ : ∃ day, lc / 1440 - 7 = day := ⟨_, rfl⟩
  have hdb : -7 ≤ day ∧ day ≤ 110000 := by omega
  obtain ⟨mi, hmi⟩ : ∃ mi, lc % 1440 = mi := ⟨_, rfl⟩
  have hmb : 0 ≤ mi ∧ mi < 1440 := by omega
  obtain ⟨wd, hwd⟩ : ∃ wd : Nat, ((day + 7) % 7) = (wd : Int) := ⟨((day + 7) % 7).toNat, by omega⟩
  have hwb : wd < 7 := by omega
  obtain ⟨r, hre⟩ : ∃ r, worksB h (Zn.off z) utc = r := ⟨_, rfl⟩
  have HRE : Hid (r = (!(h.off.any fun d => decide (d = day)) && h.shifts.any fun s => bitB s.1 wd && decide (s.2.1 ≤ mi) && decide (mi < s.2.2))) := by
    show _ = _
    rw [← hre]
    unfold worksB
    rw [ho, hlc, hday, hmi, decide_eq_true (show 0 ≤ utc by omega), decide_eq_true (show utc ≤ 158310719 by omega)]
    unfold onB
    rw [hwd, Int.toNat_natCast]; rfl
  rw [hre]
  have q1 : lc.tdiv 1440 = lc / 1440 := Int.tdiv_eq_ediv_of_nonneg hlb.1
  have q2 : lc.tmod 1440 = mi := by rw [Int.tmod_eq_emod_of_nonneg hlb.1, hmi]
  have q3 : (day + 7).tmod 7 = (wd : Int) := by rw [Int.tmod_eq_emod_of_nonneg (by omega), hwd]
  have HO := Lib.hid (fun (w' : World) (hb : Below w.heap.size w w') => roffs_any w' A z c utc (by have := hzm.2.2.1; omega) (hz.below hb))
  rw [ho] at HO
  have HS := Lib.hid hs
  have HM := Lib.hid hm
  have HW0 := Lib.hid hW0
  have HQ := Lib.hid hday
  have hl1 : (h.shifts.length : Int) ≤ 9223372036854775807 := by have := hm.1; omega
  have hl2 : (h.off.length : Int) ≤ 9223372036854775807 := by have := hm.2.1; omega
  obtain ⟨W1, hW1⟩ : ∃ W1, (w.alloc (.cells #[.int .i64 z.base, .slice A z.n c] 24)).alloc (.cells #[.slice A1 h.shifts.length c1, .slice A2 h.off.length c2] 28) = W1 := ⟨_, rfl⟩
  have hZ0 : ∀ G : Gr W1, G.val.cell? ⟨w.heap.size, 0, none⟩ = some (.int .i64 z.base) ∧ G.val.cell? ⟨w.heap.size, 1, none⟩ = some (.slice A z.n c) ∧ G.val.cell? ⟨w.heap.size + 1, 0, none⟩ = some (.slice A1 h.shifts.length c1) ∧ G.val.cell? ⟨w.heap.size + 1, 1, none⟩ = some (.slice A2 h.off.length c2) := fun G => by
    refine ⟨cell_old ?_ G.ok, cell_old ?_ G.ok, cell_old ?_ G.ok, cell_old ?_ G.ok⟩
    all_goals (rw [← hW1]; simp [go_sem])
  have HZ0 := Lib.hid hZ0
  have E1 := Lib.hid hW1
  rw [hW1] at HW0
  obtain ⟨k1, k2, k3, k4⟩ := hZ0 ⟨W1, Below.refl _ _⟩
  simp only at k1 k2 k3 k4
  clear hday hmi hwd hre hz hs hm hZ0 hW1 hW0 ho
  go_enter Try.func17, Try.ntmps17
  go_upto_region 3 with fail
  rw [E1.out]
  go_wp2_with fail
  go_at_call 36
  refine (HO.out W1 HW0.out).mono ?_
  rintro e w2 ⟨rfl, hb⟩
  obtain ⟨g, rfl⟩ := Gr.of hb
  have hq := HQ.out
  clear hb k1 k2 k3 k4
  obtain ⟨k1, k2, k3, k4⟩ := HZ0.out g
  have HWG : Hid (∀ G : Gr W1, Below w.heap.size w G.val) := fun G => HW0.out.trans (G.ok.mono HW0.out.size)
  go_wp2_with fail
  go_loopw [33] (fun s wr => ∃ (g : Gr W1) (k : Nat), wr = g.val ∧ s = .int .i64 k ∧ k ≤ h.off.length ∧ Hid ((h.off.take k).any (fun d => decide (d = day)) = false)) (fun s _ => (h.off.length - (intOf s).toNat))
  case atStart => exact ⟨g, 0, rfl, rfl, Nat.zero_le _, rfl⟩
  case round =>
    obtain ⟨g, k, rfl, rfl, hk, HF⟩ := hrel
    clear k1 k2 k3 k4
    obtain ⟨k1, k2, k3, k4⟩ := HZ0.out g
    by_cases hlt : k < h.off.length
    · have hkz : (k : Int) < h.off.length := by omega
      obtain ⟨x, hx⟩ : ∃ x, h.off[k]? = some x := ⟨_, List.getElem?_eq_getElem hlt⟩
      obtain ⟨b, off, rfl, hbs, hce⟩ := (HS.out.below (HWG.out g)).s2.intG hx
      have g1 := hce ⟨_, Below.refl _ _⟩
      simp only at g1
      have HN := Lib.hid (any_take (fun d => decide (d = day)) h.off k x hx)
      have HX := Lib.hid hx
      clear hce hx
      by_cases e1 : x = day
      · have E : Hid (r = false) := by
          show _ = _
          rw [HRE.out, any_of (fun d => decide (d = day)) h.off k x HX.out (decide_eq_true e1)]; rfl
        have e1b : (x == day) = true := by simpa using e1
        clear e1
        go_wp2_with fail
        go_ret
        exact ⟨ret_bool E.out.symm, HWG.out g⟩
      · have e1b : (x == day) = false := beq_false_of_ne e1
        have HN2 : Hid ((h.off.take (k + 1)).any (fun d => decide (d = day)) = false) := by show _ = _; rw [HN.out, HF.out, decide_eq_false e1]; rfl
        go_wp2_with fail
        go_roundw
        case rel => exact ⟨g, k + 1, rfl, by go_num, hlt, HN2.out⟩
        case measure => simp [intOf]; omega
    · obtain rfl : k = h.off.length := by omega
      rw [List.take_length] at HF
      have HF1 := Lib.hid HF.out
      rw [HF1.out] at HRE
      clear HF
      go_wp2_with fail
      go_loopw [47] (fun s wr => ∃ (g : Gr W1) (k : Nat), wr = g.val ∧ s = .int .i64 k ∧ k ≤ h.shifts.length ∧ Hid ((h.shifts.take k).any (fun s => bitB s.1 wd && decide (s.2.1 ≤ mi) && decide (mi < s.2.2)) = false)) (fun s _ => (h.shifts.length - (intOf s).toNat))
      case atStart => exact ⟨g, 0, rfl, rfl, Nat.zero_le _, rfl⟩
      case round =>
        obtain ⟨g, k, rfl, rfl, hk, HF⟩ := hrel
        clear k1 k2 k3 k4
        obtain ⟨k1, k2, k3, k4⟩ := HZ0.out g
        by_cases hlt : k < h.shifts.length
        · have hkz : (k : Int) < h.shifts.length := by omega
          obtain ⟨s, hs⟩ : ∃ s, h.shifts[k]? = some s := ⟨_, List.getElem?_eq_getElem hlt⟩
          obtain ⟨b, off, rfl, hbs, g1, g2, g3⟩ := (HS.out.below (HWG.out g)).s1.shift hs
          have hok := HM.out.2.2.1 s (List.mem_of_getElem? hs)
          have HN := Lib.hid (any_take (fun s => bitB s.1 wd && decide (s.2.1 ≤ mi) && decide (mi < s.2.2)) h.shifts k s hs)
          have HX := Lib.hid (any_of (fun s => bitB s.1 wd && decide (s.2.1 ≤ mi) && decide (mi < s.2.2)) h.shifts k s hs)
          clear hs
          obtain ⟨d, f, t⟩ := s
          unfold okS at hok
          simp only at g1 g2 g3 hok HN HX
          have HBi := Lib.hid (fun w' : World => rbit_any d wd (by omega) (by omega) (by omega) w')
          have hways : bitB d wd = false ∨ bitB d wd = true ∧ decide (f ≤ mi) = false ∨ bitB d wd = true ∧ decide (f ≤ mi) = true ∧ decide (mi < t) = false ∨ bitB d wd = true ∧ decide (f ≤ mi) = true ∧ decide (mi < t) = true := by
            cases bitB d wd <;> cases decide (f ≤ mi) <;> cases decide (mi < t) <;> simp
          generalize bitB d wd = bb at *
          rcases hways with rfl | ⟨rfl, e2⟩ | ⟨rfl, e2, e3⟩ | ⟨rfl, e2, e3⟩
          case inr.inr.inr =>
            have E : Hid (r = true) := by show _ = _; rw [HRE.out, HX.out (by rw [e2, e3]; rfl)]; rfl
            clear HN HX
            go_wp2_with fail
            go_at_call 37
            refine (HBi.out _).mono ?_
            rintro e w' ⟨rfl, rfl⟩
            go_wp2_with fail
            go_ret
            exact ⟨ret_bool E.out.symm, (HWG.out g).alloc (HWG.out g).size _⟩
          all_goals
            have HN2 : Hid ((h.shifts.take (k + 1)).any (fun s => bitB s.1 wd && decide (s.2.1 ≤ mi) && decide (mi < s.2.2)) = false) := by show _ = _; rw [HN.out, HF.out]; first | rfl | (rw [e2]; rfl) | (rw [e2, e3]; rfl)
            clear HN HX
            obtain ⟨g2, hg2⟩ := g.up0 (o := .cells #[.int .i64 d, .int .i64 f, .int .i64 t] 44)
            have HG2 := Lib.hid hg2
            clear hg2
            go_wp2_with fail
            go_at_call 37
            refine (HBi.out _).mono ?_
            rintro e w' ⟨rfl, rfl⟩
            go_wp2_with fail
            go_roundw
            case rel => exact ⟨g2, k + 1, HG2.out, by go_num, hlt, HN2.out⟩
            case measure => simp [intOf]; omega
        · obtain rfl : k = h.shifts.length := by omega
          rw [List.take_length] at HF
          have E : Hid (r = false) := by show _ = _; rw [HRE.out, HF.out]; rfl
          go_wp2_with fail
          go_ret
          exact ⟨ret_bool E.out.symm, HWG.out g⟩
end Go.Proofs.Ytkfmigpdmolmaaa
