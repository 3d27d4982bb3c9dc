/- The law's walk: order. -/
import Derived.Test.YtdokniohjdlmfaaDoorCL1
import Derived.Test.YtdokniohjdlmfaaDoorCMath7
namespace Go.Proofs.YtdokniohjdlmfaaDoor
open Go.ChangeShapes Go.WideShapes Go.ChangeAt Go.RowKit Ck

noncomputable def stS (n : Int) : List UInt8 := if 0 ≤ n ∧ n ≤ 158310720 then stampT n else []
def miS (n : Int) : List UInt8 := if 0 ≤ n ∧ n ≤ 1440 then minT n else []
theorem stS_len (n : Int) : (stS n).length ≤ 20 := by unfold stS; split; · rw [stampT_len]; omega
                                                      · simp
theorem miS_len (n : Int) : (miS n).length ≤ 20 := by unfold miS; split; · rw [minT_len]; omega
                                                      · simp
theorem stamp_all (n : Int) (w : World) (hE : Env w) :
    Calls Tryd.prog 15 #[.int .i64 n] w fun e w' => e = .returned (.tuple #[.string ⟨(stS n).toArray⟩, .bool (decide (0 ≤ n ∧ n ≤ 158310720))]) ∧ Below w.heap.size w w' := by
  unfold stS
  by_cases h : 0 ≤ n ∧ n ≤ 158310720
  · rw [if_pos h, decide_eq_true h]; exact stamp_yes n h.1 h.2 w hE
  · rw [if_neg h, decide_eq_false h]
    exact (stamp_no n (by omega) w).mono fun e w' ⟨a, b⟩ => ⟨a, by rw [← b]; exact Below.refl _ _⟩
theorem minute_all (n : Int) (w : World) (hE : Env w) :
    Calls Tryd.prog 11 #[.int .i64 n] w fun e w' => e = .returned (.tuple #[.string ⟨(miS n).toArray⟩, .bool (decide (0 ≤ n ∧ n ≤ 1440))]) ∧ Below w.heap.size w w' := by
  unfold miS
  by_cases h : 0 ≤ n ∧ n ≤ 1440
  · rw [if_pos h, decide_eq_true h]; exact minute_yes n h.1 h.2 w hE
  · rw [if_neg h, decide_eq_false h]
    exact (minute_no n (by omega) w).mono fun e w' ⟨a, b⟩ => ⟨a, by rw [← b]; exact Below.refl _ _⟩
theorem ways4 (a b : Int) (p q : Bool) (x y : List UInt8) (h : p = true → q = true → Op.bytesLess x y = decide (a < b)) :
    p = false ∨ (p = true ∧ q = false) ∨ (p = true ∧ q = true ∧ Op.bytesLess x y = true ∧ decide (a < b) = true) ∨ (p = true ∧ q = true ∧ Op.bytesLess x y = false ∧ decide (a < b) = false) := by
  cases p <;> cases q <;> simp_all
  omega

set_option maxRecDepth 100000 in
set_option maxHeartbeats 4000000 in
theorem clockOrder_walk (a b m n : Int) (w : World) (hE : Env w) :
    Calls Tryd.prog 7 #[.int .i64 a, .int .i64 b, .int .i64 m, .int .i64 n] w fun e w' => e = .returned (.bool true) ∧ Below w.heap.size w w' := by
  have HE := Lib.hid hE
  have HA := Lib.hid (fun w hE => stamp_all a w hE)
  have HB := Lib.hid (fun w hE => stamp_all b w hE)
  have HM := Lib.hid (fun w hE => minute_all m w hE)
  have HN := Lib.hid (fun w hE => minute_all n w hE)
  have hs : decide (0 ≤ a ∧ a ≤ 158310720) = true → decide (0 ≤ b ∧ b ≤ 158310720) = true → Op.bytesLess (stS a) (stS b) = decide (a < b) := by
    intro h1 h2
    have h1 := of_decide_eq_true h1
    have h2 := of_decide_eq_true h2
    unfold stS; rw [if_pos h1, if_pos h2]
    exact stampT_less h1.1 h1.2 h2.1 h2.2
  have hm : decide (0 ≤ m ∧ m ≤ 1440) = true → decide (0 ≤ n ∧ n ≤ 1440) = true → Op.bytesLess (miS m) (miS n) = decide (m < n) := by
    intro h1 h2
    have h1 := of_decide_eq_true h1
    have h2 := of_decide_eq_true h2
    unfold miS; rw [if_pos h1, if_pos h2]
    exact minT_less h1.1 h1.2 h2.1 h2.2
  have l1 := stS_len a
  have l2 := stS_len b
  have l3 := miS_len m
  have l4 := miS_len n
  generalize stS a = sa at *
  generalize stS b = sb at *
  generalize miS m = sm at *
  generalize miS n = sn at *
  generalize decide (0 ≤ a ∧ a ≤ 158310720) = oa at *
  generalize decide (0 ≤ b ∧ b ≤ 158310720) = ob at *
  generalize decide (0 ≤ m ∧ m ≤ 1440) = om at *
  generalize decide (0 ≤ n ∧ n ≤ 1440) = on at *
  have w1 := ways4 a b oa ob sa sb hs
  have w2 := ways4 m n om on sm sn hm
  clear hs hm hE
  rcases w1 with rfl | ⟨rfl, rfl⟩ | ⟨rfl, rfl, c1, c2⟩ | ⟨rfl, rfl, c1, c2⟩
  all_goals
    rcases w2 with rfl | ⟨rfl, rfl⟩ | ⟨rfl, rfl, c3, c4⟩ | ⟨rfl, rfl, c3, c4⟩
  all_goals
    go_enter Tryd.func7, Tryd.ntmps7
    go_wp2_with fail
    go_at_call 15
    refine (HA.out _ HE.out).mono ?_
    rintro e w' ⟨rfl, hb⟩; obtain ⟨g, rfl⟩ := Gr.of hb; clear hb
    go_wp2_with fail
    go_at_call 15
    refine (HB.out _ (HE.out.gr g)).mono ?_
    rintro e w' ⟨rfl, hb⟩; obtain ⟨g, rfl⟩ := g.on hb; clear hb
    go_wp2_with fail
    go_at_call 11
    refine (HM.out _ (HE.out.gr g)).mono ?_
    rintro e w' ⟨rfl, hb⟩; obtain ⟨g, rfl⟩ := g.on hb; clear hb
    go_wp2_with fail
    go_at_call 11
    refine (HN.out _ (HE.out.gr g)).mono ?_
    rintro e w' ⟨rfl, hb⟩; obtain ⟨g, rfl⟩ := g.on hb; clear hb
    go_wp2_with fail
    go_at_call 10
    refine (fixed3_any _ (HE.out.gr g)).mono ?_
    rintro e w' ⟨rfl, hb⟩; obtain ⟨g, rfl⟩ := g.on hb; clear hb
    go_wp2_with fail
    go_ret
    exact ⟨rfl, g.ok⟩
end Go.Proofs.YtdokniohjdlmfaaDoor
