/- The laws' walks: sums. -/
import Derived.Test.YtapinfagjhpciaaDoorRL1
namespace Go.Proofs.YtapinfagjhpciaaDoor
open Go.ChangeShapes Go.WideShapes Go.ChangeAt Go.RowKit Rc

theorem crcSums_walk (a b : List UInt8) (A B : Option Addr) (ca cb : Nat) (w : World) (ha : a.length ≤ 9223372036854775807) (hb : b.length ≤ 9223372036854775807) (hA : BAt w A a) (hB : BAt w B b) (hH : Halves w) :
    Calls Tryd.prog 3 #[.slice A a.length ca, .slice B b.length cb] w fun e w' => e = .returned (.bool true) ∧ Below w.heap.size w w' := by
  have HH := Lib.hid hH
  clear hH
  by_cases h1 : 5000 < a.length ∨ 5000 < b.length
  · have HF := Lib.hid (fixed4_any w HH.out)
    have hz : (decide ((5000 : Int) < a.length) = true) ∨ (decide ((5000 : Int) < a.length) = false ∧ decide ((5000 : Int) < b.length) = true) := by
      by_cases h : 5000 < a.length
      · exact Or.inl (decide_eq_true (by omega))
      · exact Or.inr ⟨decide_eq_false (by omega), decide_eq_true (by omega)⟩
    clear h1
    rcases hz with hz | ⟨hz, hz2⟩
    all_goals
      go_enter Tryd.func3, Tryd.ntmps3
      go_wp2_with fail
      go_at_call 6
      refine HF.out.mono ?_
      rintro e w' ⟨rfl, hb⟩
      go_wp2_with fail
      go_ret
      exact ⟨rfl, hb⟩
  have hz1 : decide ((5000 : Int) < a.length) = false := decide_eq_false (by omega)
  have hz2 : decide ((5000 : Int) < b.length) = false := decide_eq_false (by omega)
  have HF := Lib.hid (fun g : Gr w => fixed4_any g.val (HH.out.gr g))
  have HS := Lib.hid (fun g : Gr w => sum_any a A ca (by omega) g.val (hA.gr g) (HH.out.gr g))
  have HS0 := Lib.hid (sum_any a A ca (by omega) w hA HH.out)
  have HM := Lib.hid (fun g : Gr w => more_any (Rc.sum (bn a)) (sum_lt _) b B cb (by omega) g.val (hB.gr g) (HH.out.gr g))
  have HN := Lib.hid (fun g : Gr w => more_any (Rc.sum (bn a)) (sum_lt _) [] none 0 (by simp) g.val (BAt.nil _ _) (HH.out.gr g))
  have hms : more (Rc.sum (bn a)) (bn b) = Rc.sum (bn (a ++ b)) := by rw [more_sum _ _ (bn_lt a), bn, bn, bn, List.map_append]
  have hmn : more (Rc.sum (bn a)) (bn []) = Rc.sum (bn a) := more_nil (sum_lt _)
  rw [hms] at HM
  rw [hmn] at HN
  have HR := Lib.hid (fun w : World => rsum_any ⟨a.toArray⟩ (by show a.toArray.size ≤ _; simp; omega) w)
  have HR2 := Lib.hid (fun w : World => rsum_any (ByteArray.mk a.toArray ++ ByteArray.mk b.toArray) (by rw [ByteArray.mk_append_mk]; show (a ++ b).toArray.size ≤ _; simp; omega) w)
  have e2 : (ByteArray.mk a.toArray ++ ByteArray.mk b.toArray).data.toList = a ++ b := by rw [ByteArray.mk_append_mk]
  rw [e2] at HR2
  have cva := fun g : Gr w => (hA.gr g).conv (P := Tryd.prog) ca (dst := 9) Tryd.underlying22 Tryd.underlying5 Tryd.underlying9
  have cvb := fun g : Gr w => (hB.gr g).conv (P := Tryd.prog) cb (dst := 9) Tryd.underlying22 Tryd.underlying5 Tryd.underlying9
  have la : a.length ≤ 5000 := by omega
  have lb : b.length ≤ 5000 := by omega
  clear hms hmn e2 hA hB h1 ha hb
  generalize Rc.sum (bn (a ++ b)) = s2 at *
  have e1 : (⟨a.toArray⟩ : ByteArray).data.toList = a := rfl
  rw [e1] at HR
  clear e1
  generalize Rc.sum (bn a) = s1 at *
  go_enter Tryd.func3, Tryd.ntmps3
  go_wp2_with fail
  go_at_call 7
  refine HS0.out.mono ?_
  rintro e w' ⟨rfl, rfl⟩
  go_wp2_with fail
  refine Gr.region (by kernel_rfl) (by kernel_rfl) (Gr.draw0 _) ?_
  repeat (go_big_quiet_step (fail))
  go_big_quiet_step ((go_at_call 6; exact Gr.calls _ (HF.out _)))
  repeat (go_big_quiet_step (fail))
  go_big_quiet_step ((go_at_call 8; exact Gr.calls_same _ (HR.out _)))
  repeat (go_big_quiet_step (fail))
  go_big_quiet_step ((go_at_call 9; exact Gr.calls_same _ (HM.out _)))
  repeat (go_big_quiet_step (fail))
  go_big_quiet_step ((go_at_call 8; exact Gr.calls_same _ (HR2.out _)))
  repeat (go_big_quiet_step (fail))
  go_big_quiet_step ((go_at_call 9; exact Gr.calls_same _ (HN.out _)))
  repeat (go_big_quiet_step (fail))
  refine wpQuiet_nil ?_
  rintro _ ⟨g, rfl⟩
  go_wp2_with fail
  go_ret
  exact ⟨rfl, g.ok⟩
end Go.Proofs.YtapinfagjhpciaaDoor
