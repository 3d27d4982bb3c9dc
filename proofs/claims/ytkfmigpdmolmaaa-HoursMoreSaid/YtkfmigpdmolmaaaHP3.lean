/- Contract of the program's hours: whether a minute is worked. -/
import Derived.Test.YtkfmigpdmolmaaaHP2
namespace Go.Proofs.Ytkfmigpdmolmaaa
open Go.ChangeShapes Go.WideShapes Go.ChangeAt Go.RowKit Hr Zn

set_option maxHeartbeats 2000000 in
theorem worksC_any (K1 K2 : Nat) (day mi : Int) (s : Int × Int × Int) (hd : 1 ≤ s.1 ∧ s.1 ≤ 127) (w : World) (hk1 : w.cell? ⟨K1, 0, none⟩ = some (.int .i64 day)) (hk2 : w.cell? ⟨K2, 0, none⟩ = some (.int .i64 mi)) :
    Calls Try.prog 34 (#[.agg #[.int .i64 s.1, .int .i64 s.2.1, .int .i64 s.2.2]] ++ #[.pointer (some ⟨K1, 0, none⟩), .pointer (some ⟨K2, 0, none⟩)]) w fun e w' => e = .returned (.bool (onB day mi s)) ∧ Below w.heap.size w w' := by
  obtain ⟨d, f, t⟩ := s
  show Calls Try.prog 34 #[.agg #[.int .i64 d, .int .i64 f, .int .i64 t], .pointer (some ⟨K1, 0, none⟩), .pointer (some ⟨K2, 0, none⟩)] w _
  have HC := Lib.hid (fun w => isOn_any d f t day hd w)
  have HE : Hid (onB day mi (d, f, t) = (bitB d ((day + 7) % 7).toNat && decide (f ≤ mi) && decide (mi < t))) := rfl
  generalize onB day mi (d, f, t) = q at *
  generalize bitB d ((day + 7) % 7).toNat = bb at *
  obtain ⟨F0, F1, F2, F3⟩ := Gr.lay3 w (.int .i64 d) (.int .i64 f) (.int .i64 t) 44
  have G1 := Gr.layOld hk1 (.cells #[.int .i64 d, .int .i64 f, .int .i64 t] 44)
  have G2 := Gr.layOld hk2 (.cells #[.int .i64 d, .int .i64 f, .int .i64 t] 44)
  have p1 := G1 ⟨_, Below.refl _ _⟩
  simp only at p1
  have hways : bb = false ∨ bb = true ∧ decide (f ≤ mi) = false ∨ bb = true ∧ decide (f ≤ mi) = true ∧ decide (mi < t) = false ∨ bb = true ∧ decide (f ≤ mi) = true ∧ decide (mi < t) = true := by
    cases bb <;> cases decide (f ≤ mi) <;> cases decide (mi < t) <;> simp
  clear hk1 hk2 hd
  rcases hways with rfl | ⟨rfl, e2⟩ | ⟨rfl, e2, e3⟩ | ⟨rfl, e2, e3⟩
  all_goals
    have E : Hid (q = (decide (q = true))) := by show _ = _; cases q <;> rfl
    go_enter Try.func34, Try.ntmps34
    go_wp2_with fail
    go_at_call 35
    refine (HC.out _).mono ?_
    rintro e w' ⟨rfl, hb⟩
    obtain ⟨g, rfl⟩ := Gr.of hb
    clear hb
    go_wp2_with fail
    go_ret
    exact ⟨ret_bool (by rw [HE.out]; first | rfl | (rw [e2]; rfl) | (rw [e2, e3]; rfl)), g.below1⟩

set_option maxRecDepth 100000 in
set_option maxHeartbeats 4000000 in
theorem pworks_no (z : Z) (A : Option Addr) (c : Nat) (h : H) (A1 A2 : Option Addr) (c1 c2 : Nat) (utc : Int) (w : World) (hn : utc = 158310720 ∨ mayHB h = false ∨ ¬ (inB utc = true ∧ mayB z = true)) (hw : ZWf z) (hz : ZAt w A z) (hs : HAt w h A1 A2 c1 c2) :
    Calls Try.prog 16 #[.agg #[.int .i64 z.base, .slice A z.n c], .agg #[.slice A1 h.shifts.length c1, .slice A2 h.off.length c2], .int .i64 utc] w fun e w' => e = .returned (.bool false) ∧ Below w.heap.size w w' := by
  obtain ⟨W1, hW1⟩ : ∃ W1, (w.alloc (.cells #[.int .i64 z.base, .slice A z.n c] 24)).alloc (.cells #[.slice A1 h.shifts.length c1, .slice A2 h.off.length c2] 28) = W1 := ⟨_, rfl⟩
  have hW0 : Below w.heap.size w W1 := by rw [← hW1]; exact ((Below.refl _ _).alloc (Nat.le_refl _) _).alloc (by simp) _
  have hZ0 : ∀ G : Gr W1, G.val.cell? ⟨w.heap.size, 0, none⟩ = some (.int .i64 z.base) ∧ G.val.cell? ⟨w.heap.size, 1, none⟩ = some (.slice A z.n c) ∧ G.val.cell? ⟨w.heap.size + 1, 0, none⟩ = some (.slice A1 h.shifts.length c1) ∧ G.val.cell? ⟨w.heap.size + 1, 1, none⟩ = some (.slice A2 h.off.length c2) := fun G => by
    refine ⟨cell_old ?_ G.ok, cell_old ?_ G.ok, cell_old ?_ G.ok, cell_old ?_ G.ok⟩
    all_goals (rw [← hW1]; simp [go_sem])
  have HM := Lib.hid (fun G : Gr W1 => pmay12_any h A1 A2 c1 c2 G.val (hs.below (hW0.trans (G.ok.mono hW0.size))))
  have HL := Lib.hid (fun (G : Gr W1) (hh : ¬ (inB utc = true ∧ mayB z = true)) => local_no G.val A z c utc hw (hz.below (hW0.trans (G.ok.mono hW0.size))) hh)
  have HZ0 := Lib.hid hZ0
  have E1 := Lib.hid hW1
  have HW0 := Lib.hid hW0
  obtain ⟨k1, k2, k3, k4⟩ := hZ0 ⟨W1, Below.refl _ _⟩
  simp only at k1 k2 k3 k4
  have hways : utc = 158310720 ∨ (utc == 158310720) = false ∧ mayHB h = false ∨ (utc == 158310720) = false ∧ mayHB h = true ∧ ¬ (inB utc = true ∧ mayB z = true) := by
    by_cases q : utc = 158310720
    · exact .inl q
    · have : (utc == 158310720) = false := by simpa using q
      cases hb : mayHB h with
      | false => exact .inr (.inl ⟨this, rfl⟩)
      | true => exact .inr (.inr ⟨this, rfl, by rcases hn with hn | hn | hn; exact absurd hn q; (rw [hb] at hn; cases hn); exact hn⟩)
  clear hn hz hs hW1 hW0 hZ0 hw
  generalize mayHB h = b1 at *
  rcases hways with rfl | ⟨e1, rfl⟩ | ⟨e1, rfl, e3⟩
  · clear HL
    go_enter Try.func16, Try.ntmps16
    go_upto_region 1 with fail
    rw [E1.out]
    go_wp2_with fail
    go_ret
    exact ⟨rfl, HW0.out⟩
  · clear HL
    go_enter Try.func16, Try.ntmps16
    go_upto_region 1 with fail
    rw [E1.out]
    go_wp2_with fail
    go_at_call 10
    refine (HM.out ⟨W1, Below.refl _ _⟩).mono ?_
    rintro e w2 ⟨rfl, hb⟩
    obtain ⟨g, rfl⟩ := Gr.of hb
    clear hb
    go_wp2_with fail
    go_ret
    exact ⟨rfl, HW0.out.trans (g.ok.mono HW0.out.size)⟩
  · have HL2 := Lib.hid (fun G => HL.out G e3)
    clear HL e3
    go_enter Try.func16, Try.ntmps16
    go_upto_region 1 with fail
    rw [E1.out]
    go_wp2_with fail
    go_at_call 10
    refine (HM.out ⟨W1, Below.refl _ _⟩).mono ?_
    rintro e w2 ⟨rfl, hb⟩
    obtain ⟨g, rfl⟩ := Gr.of hb
    clear hb k1 k2 k3 k4
    obtain ⟨k1, k2, k3, k4⟩ := HZ0.out g
    go_wp2_with fail
    go_at_call 30
    refine (HL2.out g).mono ?_
    rintro e w3 ⟨rfl, hb⟩
    obtain ⟨g3, rfl⟩ := g.on hb
    clear hb
    go_wp2_with fail
    go_ret
    exact ⟨rfl, HW0.out.trans (g3.ok.mono HW0.out.size)⟩

set_option maxRecDepth 100000 in
set_option maxHeartbeats 4000000 in
theorem pworks_yes (z : Z) (A : Option Addr) (c : Nat) (h : H) (A1 A2 : Option Addr) (c1 c2 : Nat) (utc : Int) (w : World) (hu : 0 ≤ utc ∧ utc < 158310720) (hm : Hr.mayH h) (hp : mayP z) (hw : ZWf z) (hz : ZAt w A z) (hs : HAt w h A1 A2 c1 c2) :
    Calls Try.prog 16 #[.agg #[.int .i64 z.base, .slice A z.n c], .agg #[.slice A1 h.shifts.length c1, .slice A2 h.off.length c2], .int .i64 utc] w fun e w' => e = .returned (.bool (locB h (utc + Zn.off z utc))) ∧ Below w.heap.size w w' := by
  obtain ⟨W1, hW1⟩ : ∃ W1, (w.alloc (.cells #[.int .i64 z.base, .slice A z.n c] 24)).alloc (.cells #[.slice A1 h.shifts.length c1, .slice A2 h.off.length c2] 28) = W1 := ⟨_, rfl⟩
  have hW0 : Below w.heap.size w W1 := by rw [← hW1]; exact ((Below.refl _ _).alloc (Nat.le_refl _) _).alloc (by simp) _
  have hZ0 : ∀ G : Gr W1, G.val.cell? ⟨w.heap.size, 0, none⟩ = some (.int .i64 z.base) ∧ G.val.cell? ⟨w.heap.size, 1, none⟩ = some (.slice A z.n c) ∧ G.val.cell? ⟨w.heap.size + 1, 0, none⟩ = some (.slice A1 h.shifts.length c1) ∧ G.val.cell? ⟨w.heap.size + 1, 1, none⟩ = some (.slice A2 h.off.length c2) := fun G => by
    refine ⟨cell_old ?_ G.ok, cell_old ?_ G.ok, cell_old ?_ G.ok, cell_old ?_ G.ok⟩
    all_goals (rw [← hW1]; simp [go_sem])
  have hob := off_bd hp utc
  have hloc : ∀ G : Gr W1, Calls Try.prog 30 #[.agg #[.int .i64 z.base, .slice A z.n c], .int .i64 utc] G.val fun e w' => e = .returned (.tuple #[.int .i64 (utc + Zn.off z utc), .bool true]) ∧ Below G.val.heap.size G.val w' := fun G =>
    local_yes G.val A z c utc hw (hz.below (hW0.trans (G.ok.mono hW0.size))) (decide_eq_true (by omega)) hp
  obtain ⟨l, hl⟩ : ∃ l, utc + Zn.off z utc = l := ⟨_, rfl⟩
  rw [hl] at hloc ⊢
  have hlb : -900 ≤ l ∧ l ≤ 158311620 := by omega
  obtain ⟨d, hd⟩ : ∃ d, dyI l = d := ⟨_, rfl⟩
  have hdm := dy_mi l
  obtain ⟨mi, hmi⟩ : ∃ mi, miI l = mi := ⟨_, rfl⟩
  rw [hd, hmi] at hdm
  have hdb : -2 ≤ d ∧ d ≤ 110000 := by omega
  have hmid : l - d * 1440 = mi := by omega
  have HE : Hid (locB h l = (!(h.off.any fun x => decide (x = d)) && h.shifts.any (onB d mi))) := by show _ = _; unfold locB; rw [hd, hmi]
  have HD : Hid (∀ w : World, Calls Try.prog 31 #[.int .i64 l] w fun e w' => e = .returned (.int .i64 d) ∧ w = w') := fun w => by rw [← hd]; exact pdayOf_any l (by omega) w
  have HMd := Lib.hid (fun w : World => pmidnight_any d (by omega) w)
  have HM := Lib.hid (fun G : Gr W1 => pmay12_any h A1 A2 c1 c2 G.val (hs.below (hW0.trans (G.ok.mono hW0.size))))
  rw [may_yes hm] at HM
  have HOff := Lib.hid (fun G : Gr W1 => isOff_any h A1 A2 c1 c2 d G.val (hs.below (hW0.trans (G.ok.mono hW0.size))).s2 h.shifts.length)
  have HCt : Hid (∀ (G : Gr W1) (K1 K2 : Nat), G.val.cell? ⟨K1, 0, none⟩ = some (.int .i64 d) → G.val.cell? ⟨K2, 0, none⟩ = some (.int .i64 mi) → Calls Try.prog 18 #[.slice A1 h.shifts.length c1, .func (.func 34) #[] #[.pointer (some ⟨K1, 0, none⟩), .pointer (some ⟨K2, 0, none⟩)]] G.val
      fun e w' => e = .returned (.bool (h.shifts.any (onB d mi))) ∧ Below G.val.heap.size G.val w') := fun G K1 K2 q1 q2 =>
    pcontTW_any #[.pointer (some ⟨K1, 0, none⟩), .pointer (some ⟨K2, 0, none⟩)] (onB d mi) h.shifts A1 c1 G.val (hs.below (hW0.trans (G.ok.mono hW0.size))).s1 (fun g2 s hsm => worksC_any K1 K2 d mi s (by have := hm.2.2.1 s hsm; exact ⟨this.1, this.2.1⟩) g2.val (cell_old q1 g2.ok) (cell_old q2 g2.ok))
  have HL := Lib.hid hloc
  have HZ0 := Lib.hid hZ0
  have E1 := Lib.hid hW1
  have HW0 := Lib.hid hW0
  obtain ⟨k1, k2, k3, k4⟩ := hZ0 ⟨W1, Below.refl _ _⟩
  simp only at k1 k2 k3 k4
  have hue : (utc == 158310720) = false := by simp; omega
  generalize locB h l = r at *
  generalize (h.off.any fun x => decide (x = d)) = b1 at *
  generalize h.shifts.any (onB d mi) = b2 at *
  clear hz hs hW1 hW0 hZ0 hw hm hp hl hd hmi hloc hob hdm
  go_enter Try.func16, Try.ntmps16
  go_upto_region 1 with fail
  rw [E1.out]
  go_wp2_with fail
  go_at_call 10
  refine (HM.out ⟨W1, Below.refl _ _⟩).mono ?_
  rintro e w2 ⟨rfl, hb⟩
  obtain ⟨g, rfl⟩ := Gr.of hb
  clear hb k1 k2 k3 k4
  obtain ⟨k1, k2, k3, k4⟩ := HZ0.out g
  go_wp2_with fail
  go_at_call 30
  refine (HL.out g).mono ?_
  rintro e w3 ⟨rfl, hb⟩
  obtain ⟨g3, rfl⟩ := g.on hb
  clear hb k1 k2 k3 k4
  go_wp2_with fail
  go_at_call 31
  refine (HD.out _).mono ?_
  rintro e w4 ⟨rfl, rfl⟩
  go_upto_region 7 with fail
  have hx1 : ∃ G : Gr W1, g3.val.alloc (.cells #[.int .i64 d] 3) = G.val := ⟨⟨_, g3.ok.alloc g3.size _⟩, rfl⟩
  have hd1 : (g3.val.alloc (.cells #[.int .i64 d] 3)).cell? ⟨g3.val.heap.size, 0, none⟩ = some (.int .i64 d) := by simp [go_sem]
  obtain ⟨G1, hG1⟩ := hx1
  rw [hG1] at hd1 ⊢
  clear hG1
  go_wp2_with fail
  go_at_call 32
  refine (HMd.out _).mono ?_
  rintro e w4 ⟨rfl, rfl⟩
  go_upto_region 8 with fail
  have hx2 : ∃ G : Gr W1, G1.val.alloc (.cells #[.int .i64 mi] 3) = G.val := ⟨⟨_, G1.ok.alloc G1.size _⟩, rfl⟩
  have hd2 : (G1.val.alloc (.cells #[.int .i64 mi] 3)).cell? ⟨G1.val.heap.size, 0, none⟩ = some (.int .i64 mi) := by simp [go_sem]
  have hd3 : (G1.val.alloc (.cells #[.int .i64 mi] 3)).cell? ⟨g3.val.heap.size, 0, none⟩ = some (.int .i64 d) := cell_old hd1 ((Below.refl _ _).alloc (Nat.le_refl _) _)
  obtain ⟨G2, hG2⟩ := hx2
  rw [hG2] at hd2 hd3 ⊢
  clear hG2 hd1
  obtain ⟨k1, k2, k3, k4⟩ := HZ0.out G2
  cases b1 with
  | true =>
    have E : Hid (r = false) := HE.out
    go_wp2_with fail
    go_at_call 33
    refine (HOff.out _).mono ?_
    rintro e w4 ⟨rfl, hb⟩
    obtain ⟨G3, rfl⟩ := G2.on hb
    go_wp2_with fail
    go_ret
    exact ⟨ret_bool E.out.symm, HW0.out.trans (G3.ok.mono HW0.out.size)⟩
  | false =>
    have E : Hid (r = b2) := HE.out
    go_wp2_with fail
    go_at_call 33
    refine (HOff.out _).mono ?_
    rintro e w4 ⟨rfl, hb⟩
    have hd4 := cell_old hd2 hb
    have hd5 := cell_old hd3 hb
    obtain ⟨G3, rfl⟩ := G2.on hb
    clear hb k1 k2 k3 k4 hd2 hd3
    obtain ⟨k1, k2, k3, k4⟩ := HZ0.out G3
    go_wp2_with fail
    go_at_call 18
    refine (HCt.out G3 _ _ hd5 hd4).mono ?_
    rintro e w5 ⟨rfl, hb⟩
    obtain ⟨G4, rfl⟩ := G3.on hb
    go_wp2_with fail
    go_ret
    exact ⟨ret_bool E.out.symm, HW0.out.trans (G4.ok.mono HW0.out.size)⟩
theorem pworks_any (z : Z) (A : Option Addr) (c : Nat) (h : H) (A1 A2 : Option Addr) (c1 c2 : Nat) (utc : Int) (w : World) (hw : ZWf z) (hz : ZAt w A z) (hs : HAt w h A1 A2 c1 c2) :
    Calls Try.prog 16 #[.agg #[.int .i64 z.base, .slice A z.n c], .agg #[.slice A1 h.shifts.length c1, .slice A2 h.off.length c2], .int .i64 utc] w fun e w' => e = .returned (.bool (mayHB h && mayB z && worksB h (Zn.off z) utc)) ∧ Below w.heap.size w w' := by
  by_cases hg : (0 ≤ utc ∧ utc < 158310720) ∧ Hr.mayH h ∧ mayP z
  · obtain ⟨hu, hm, hp⟩ := hg
    have : (mayHB h && mayB z && worksB h (Zn.off z) utc) = locB h (utc + Zn.off z utc) := by
      rw [may_yes hm, may_iff.2 hp, works_loc, decide_eq_true hu.1, decide_eq_true (show utc ≤ 158310719 by omega)]; rfl
    rw [this]
    exact pworks_yes z A c h A1 A2 c1 c2 utc w hu hm hp hw hz hs
  · have : (mayHB h && mayB z && worksB h (Zn.off z) utc) = false := by
      rw [Bool.eq_false_iff]
      intro q
      rw [Bool.and_eq_true, Bool.and_eq_true, works_loc, Bool.and_eq_true, Bool.and_eq_true, decide_eq_true_eq, decide_eq_true_eq] at q
      exact hg ⟨⟨q.2.1.1, by omega⟩, of_decide_eq_true q.1.1, may_iff.1 q.1.2⟩
    rw [this]
    refine pworks_no z A c h A1 A2 c1 c2 utc w ?_ hw hz hs
    cases hb : mayHB h with
    | false => exact .inr (.inl rfl)
    | true =>
      by_cases q : utc = 158310720
      · exact .inl q
      · refine .inr (.inr fun ⟨k1, k2⟩ => hg ⟨?_, of_decide_eq_true hb, may_iff.1 k2⟩)
        have k3 : 0 ≤ utc ∧ utc ≤ 158310720 := of_decide_eq_true k1
        omega
end Go.Proofs.Ytkfmigpdmolmaaa
