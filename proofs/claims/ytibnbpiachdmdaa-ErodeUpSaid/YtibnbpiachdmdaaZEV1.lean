import Derived.Test.YtibnbpiachdmdaaZERK
import Derived.Test.YtibnbpiachdmdaaZMB
/- The chapter's example of layer 15; ErodeUp, walked. -/
section
namespace Go.Proofs.Ytibnbpiachdmdaa
open Go.ChangeShapes Go.WideShapes Go.ChangeAt Go.RowKit Go.Joins Sp
theorem max_forms15 (a b : Int) : ∃ x, max a b = x ∧ (if a < b then b else a) = x ∧ (if a ≤ b then b else a) = x ∧ (if b < a then a else b) = x ∧ (if b ≤ a then a else b) = x :=
  ⟨max a b, rfl, by split <;> omega, by split <;> omega, by split <;> omega, by split <;> omega⟩
theorem example15 (r : List Int) (h : First r (Est (formL [(5, 40)]) (kN 10) (kN 15)) 9) : r = [15, 30] := by
  rw [show formL [(5, 40)] = [(5, 40)] by decide +kernel, show kN 10 = 10 by decide, show kN 15 = 15 by decide] at h
  have := h.is (s := [15, 30]) (by decide) fun x => ?_
  · rw [this]; decide
  · constructor
    · intro hx
      simp only [List.mem_cons, List.not_mem_nil, or_false] at hx
      refine ⟨by omega, fun y h1 h2 => ⟨(5, 40), by simp, by dsimp only; omega, by dsimp only; omega⟩⟩
    · rintro ⟨h1, h2⟩
      have q : ∀ y, has [((5 : Int), (40 : Int))] y → 5 ≤ y ∧ y < 40 := fun y hy => by
        obtain ⟨s, hs, s1, s2⟩ := hy
        obtain rfl : s = (5, 40) := by simpa using hs
        exact ⟨s1, s2⟩
      have q1 := q x (h2 x (by omega) (by omega))
      have q2 := q (x + 9) (h2 (x + 9) (by omega) (by omega))
      simp only [List.mem_cons, List.not_mem_nil, or_false]
      omega
set_option maxRecDepth 100000 in
theorem fixed15_any {St : StP} {Ct : CtP} {Pk : PkP} (E : ErK St Ct Pk) (w : World) : Calls Try.prog 7 #[] w fun e w' => e = .returned (.bool true) ∧ Below w.heap.size w w' := by
  obtain ⟨W1, hW1⟩ : ∃ W1, w.alloc (.cells #[.int .i64 5, .int .i64 40] 26) = W1 := ⟨_, rfl⟩
  have hB : Below w.heap.size w W1 := by rw [← hW1]; exact (Below.refl _ _).alloc (Nat.le_refl _) _
  have hs1 : Sl W1 (some ⟨w.heap.size, 0, none⟩) 1 1 (sv [(5, 40)]) := by
    rw [← hW1]; exact Sl.new w (sv [(5, 40)]) 1 26 (0, 0) (by decide)
  have HP := Lib.hid (E.starts W1 [(5, 40)] (some ⟨w.heap.size, 0, none⟩) 1 10 15 9 (by decide) (by intro s hs; simp at hs; rcases hs with rfl; decide) (by unfold Int64P; decide) (by unfold Int64P; decide) (by decide) (by decide) hs1)
  have E1 := Lib.hid hW1
  have HB := Lib.hid hB
  clear hs1 hW1 hB
  go_enter Try.func7, Try.ntmps7
  go_wp2_with fail
  go_at_call 9
  rw [E1.out]
  refine HP.out.mono ?_
  rintro e w2 ⟨r, A2, d2, rfl, hs, hr, _, _, hb⟩
  obtain rfl := example15 r hr
  have HB2 := Lib.hid (HB.out.trans (hb.mono HB.out.size))
  obtain ⟨b, off, rfl, _, q0, q1⟩ := hs.at2 (i := 0) (j := 1) (u := .int .i64 15) (v := .int .i64 30) rfl rfl
  rw [Nat.add_zero] at q0
  clear hs hr hb
  go_wp2_with fail
  go_ret
  exact ⟨rfl, HB2.out⟩
set_option maxRecDepth 100000 in
set_option maxHeartbeats 2000000 in
theorem erodeUp_any {St : StP} {Ct : CtP} {Pk : PkP} (E : ErK St Ct Pk) (m g : Int) (hm : Int64P m) (hg : Int64P g) (w : World) :
    Calls Try.prog 5 #[.int .i64 m, .int .i64 g] w fun e w' => e = .returned (.bool true) ∧ Below w.heap.size w w' := by
  have HFX := Lib.hid (fun V : World => fixed15_any E V)
  have HU := E.up w m g hm hg
  obtain ⟨D, hD, d1, d2, d3, d4⟩ := max_forms15 1 g
  rw [hD] at HU
  have HU := Lib.hid HU
  obtain ⟨m0, m1⟩ := hm
  obtain ⟨g0, g1⟩ := hg
  have hD1 : 1 ≤ D := by omega
  have hD2 : D ≤ 9223372036854775807 := by omega
  have hDb : (D == 0) = false := beq_false_of_ne (by omega)
  have hDn : ¬ D = 0 := by omega
  have hwD : IntKind.i64.wrap (9223372036854775807 - D) = 9223372036854775807 - D := by rw [IntKind.wrap_i64]; omega
  have huD : IntKind.u64.wrap D = D := by rw [IntKind.wrap_u64]; omega
  clear hD
  go_enter Try.func5, Try.ntmps5
  go_wp2_with fail
  go_at_call 14
  refine HU.out.mono ?_
  rintro e w2 ⟨⟨x, ⟨rfl, q1, q2, q3, q4⟩ | ⟨rfl, q1⟩⟩, hb⟩
  · have HB := Lib.hid hb
    have hmod : x.tmod D = 0 := Int.tmod_eq_zero_of_dvd (Int.dvd_of_emod_eq_zero q3)
    obtain ⟨a, ha⟩ : ∃ a, IntKind.u64.wrap x = a := ⟨_, rfl⟩
    obtain ⟨b, hb2⟩ : ∃ b, IntKind.u64.wrap m = b := ⟨_, rfl⟩
    have hw : IntKind.u64.wrap (a - b) = x - m := by rw [← ha, ← hb2]; simp only [IntKind.wrap_u64]; omega
    have hlb : decide (x - m < D) = true := decide_eq_true q4
    have hgb : decide (m ≤ x) = true := decide_eq_true q1
    clear hb q3
    go_wp2_with fail
    go_at_call 7
    refine (HFX.out _).mono ?_
    rintro e w3 ⟨rfl, hb3⟩
    have HB3 := Lib.hid (HB.out.trans (hb3.mono HB.out.size))
    clear hb3
    go_wp2_with fail
    go_ret
    exact ⟨rfl, HB3.out⟩
  · have HB := Lib.hid hb
    have hlb : decide (9223372036854775807 - D < m) = true := decide_eq_true q1
    clear hb
    go_wp2_with fail
    go_at_call 7
    refine (HFX.out _).mono ?_
    rintro e w3 ⟨rfl, hb3⟩
    have HB3 := Lib.hid (HB.out.trans (hb3.mono HB.out.size))
    clear hb3
    go_wp2_with fail
    go_ret
    exact ⟨rfl, HB3.out⟩
end Go.Proofs.Ytibnbpiachdmdaa
end
