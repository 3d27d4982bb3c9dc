/- The laws' walks: labels. -/
import Derived.Test.YtdokniohjdlmfaaDoorCW8
import Derived.Test.YtdokniohjdlmfaaDoorCW9
import Derived.Test.YtdokniohjdlmfaaDoorCW5
namespace Go.Proofs.YtdokniohjdlmfaaDoor
open Go.ChangeShapes Go.WideShapes Go.ChangeAt Go.RowKit Ck

theorem rL_len (s : ByteArray) (hs : s.size ≤ 1000000) (w : World) :
    Calls Tryd.prog 25 #[.string s] w fun e w' => ∃ A c, e = .returned (.slice A (LT s.data.toList).length c) ∧ Below w.heap.size w w' := by
  refine (rL_any s hs w).mono fun e w' h => ?_
  by_cases hn : 0 < (LT s.data.toList).length
  · obtain ⟨g, cap, he, _, hb⟩ := h.row hn
    exact ⟨_, _, he, hb⟩
  · have e0 : LT s.data.toList = [] := List.eq_nil_of_length_eq_zero (by omega)
    rw [e0] at h ⊢
    exact h.none_

set_option maxHeartbeats 2000000 in
theorem clockLabels_walk (s : ByteArray) (w : World) (hE : Env w) :
    Calls Tryd.prog 6 #[.string s] w fun e w' => e = .returned (.bool true) ∧ Below w.heap.size w w' := by
  have HE := Lib.hid hE
  clear hE
  by_cases ht : 1000 < s.size
  · have htz : (1000 : Int) < s.size := by omega
    have HF := Lib.hid (fixed3_any w HE.out)
    go_enter Tryd.func6, Tryd.ntmps6
    go_wp2_with fail
    go_at_call 10
    refine HF.out.mono ?_
    rintro e w' ⟨rfl, hb⟩
    go_wp2_with fail
    go_ret
    exact ⟨rfl, hb⟩
  have htz : decide ((1000 : Int) < s.size) = false := decide_eq_false (by omega)
  have hs : s.size ≤ 1000000 := by omega
  have H1 := Lib.hid (fun w => label_any s hs w)
  have H2 := Lib.hid (fun w => rlabel_any s hs w)
  have H3 := Lib.hid (fun w => width_any s hs w)
  have H4 := Lib.hid (fun w => rL_len s hs w)
  have hl := LT_len s.data.toList
  have hl2 : (LT s.data.toList).length ≤ 1000000 := by simp at hl; omega
  clear hl
  generalize labB (LT s.data.toList) = lb at *
  generalize (LT s.data.toList).length = n at *
  go_enter Tryd.func6, Tryd.ntmps6
  go_wp2_with fail
  go_at_call 10
  refine (fixed3_any _ HE.out).mono ?_
  rintro e w' ⟨rfl, hb⟩; obtain ⟨g, rfl⟩ := Gr.of hb; clear hb
  go_wp2_with fail
  go_at_call 22
  refine (H1.out _).mono ?_
  rintro e w' ⟨rfl, hb⟩; obtain ⟨g, rfl⟩ := g.on hb; clear hb
  go_wp2_with fail
  go_at_call 23
  refine (H2.out _).mono ?_
  rintro e w' ⟨rfl, hb⟩; obtain ⟨g, rfl⟩ := g.on hb; clear hb
  go_wp2_with fail
  go_at_call 24
  refine (H3.out _).mono ?_
  rintro e w' ⟨rfl, hb⟩; obtain ⟨g, rfl⟩ := g.on hb; clear hb
  go_wp2_with fail
  go_at_call 25
  refine (H4.out _).mono ?_
  rintro e w' ⟨A, c, rfl, hb⟩; obtain ⟨g, rfl⟩ := g.on hb; clear hb
  go_wp2_with fail
  go_ret
  exact ⟨rfl, g.ok⟩

theorem join_lab {a b : List UInt8} (ha : labB (LT a) = true) (hb : labB (LT b) = true) :
    (LT (a ++ 32 :: b)).length = (LT a).length + (LT b).length + 1 ∧ labB (LT (a ++ 32 :: b)) = decide ((LT a).length + (LT b).length + 1 ≤ 24) := by
  have e := LT_sp a b
  have hl : (LT (a ++ 32 :: b)).length = (LT a).length + (LT b).length + 1 := by rw [e]; simp; omega
  refine ⟨hl, ?_⟩
  have pa := labF_iff.1 ha
  have pb := labF_iff.1 hb
  by_cases h : (LT a).length + (LT b).length + 1 ≤ 24
  · rw [decide_eq_true h]
    unfold labB
    refine labF_iff.2 ⟨by omega, by omega, ?_, ?_, ?_⟩
    · have := pa.2.2.1
      rw [e]
      simp only [List.getD_eq_getElem?_getD] at this ⊢
      rwa [List.getElem?_append_left pa.1]
    · have := pb.2.2.2.1
      rw [hl, e]
      simp only [List.getD_eq_getElem?_getD] at this ⊢
      rw [List.getElem?_append_right (by omega), show (LT a).length + (LT b).length + 1 - 1 - (LT a).length = ((LT b).length - 1) + 1 by have := pb.1; omega, List.getElem?_cons_succ]
      exact this
    · intro i hi
      rw [hl] at hi
      rw [e]
      simp only [List.getD_eq_getElem?_getD]
      by_cases h1 : i < (LT a).length
      · have := pa.2.2.2.2 i h1
        simp only [List.getD_eq_getElem?_getD] at this
        rwa [List.getElem?_append_left h1]
      · rw [List.getElem?_append_right (by omega)]
        by_cases h2 : i = (LT a).length
        · rw [h2, Nat.sub_self]; unfold okC; simp
        · have := pb.2.2.2.2 (i - (LT a).length - 1) (by omega)
          simp only [List.getD_eq_getElem?_getD] at this
          rw [show i - (LT a).length = (i - (LT a).length - 1) + 1 by omega, List.getElem?_cons_succ]
          exact this
  · rw [decide_eq_false h]
    unfold labB
    refine labF_no.2 fun hh => ?_
    have := hh.2.1
    omega
theorem app_data (a b : ByteArray) : (a ++ b).data.toList = a.data.toList ++ b.data.toList := by simp

set_option maxRecDepth 100000 in
set_option maxHeartbeats 4000000 in
theorem clockJoins_walk (a b : ByteArray) (w : World) (hE : Env w) :
    Calls Tryd.prog 9 #[.string a, .string b] w fun e w' => e = .returned (.bool true) ∧ Below w.heap.size w w' := by
  have HE := Lib.hid hE
  clear hE
  by_cases h1 : 1000 < a.size
  · have h1z : (1000 : Int) < a.size := by omega
    go_enter Tryd.func9, Tryd.ntmps9
    go_wp2_with fail
    go_at_call 10
    refine (fixed3_any w HE.out).mono ?_
    rintro e w' ⟨rfl, hb⟩
    go_wp2_with fail
    go_ret
    exact ⟨rfl, hb⟩
  have h1z : decide ((1000 : Int) < a.size) = false := decide_eq_false (by omega)
  by_cases h2 : 1000 < b.size
  · have h2z : (1000 : Int) < b.size := by omega
    go_enter Tryd.func9, Tryd.ntmps9
    go_wp2_with fail
    go_at_call 10
    refine (fixed3_any w HE.out).mono ?_
    rintro e w' ⟨rfl, hb⟩
    go_wp2_with fail
    go_ret
    exact ⟨rfl, hb⟩
  have h2z : decide ((1000 : Int) < b.size) = false := decide_eq_false (by omega)
  have hsa : a.size ≤ 1000000 := by omega
  have hsb : b.size ≤ 1000000 := by omega
  have LA := Lib.hid (fun w => rlabel_any a hsa w)
  have LB := Lib.hid (fun w => rlabel_any b hsb w)
  cases ha : labB (LT a.data.toList) with
  | false =>
    rw [ha] at LA
    clear ha
    go_enter Tryd.func9, Tryd.ntmps9
    go_wp2_with fail
    go_at_call 23
    refine (LA.out _).mono ?_
    rintro e w' ⟨rfl, hb⟩; obtain ⟨g, rfl⟩ := Gr.of hb; clear hb
    go_wp2_with fail
    go_at_call 10
    refine (fixed3_any _ (HE.out.gr g)).mono ?_
    rintro e w' ⟨rfl, hb⟩; obtain ⟨g, rfl⟩ := g.on hb; clear hb
    go_wp2_with fail
    go_ret
    exact ⟨rfl, g.ok⟩
  | true =>
    cases hb : labB (LT b.data.toList) with
    | false =>
      rw [ha] at LA
      rw [hb] at LB
      clear ha hb
      go_enter Tryd.func9, Tryd.ntmps9
      go_wp2_with fail
      go_at_call 23
      refine (LA.out _).mono ?_
      rintro e w' ⟨rfl, hb⟩; obtain ⟨g, rfl⟩ := Gr.of hb; clear hb
      go_wp2_with fail
      go_at_call 23
      refine (LB.out _).mono ?_
      rintro e w' ⟨rfl, hb⟩; obtain ⟨g, rfl⟩ := g.on hb; clear hb
      go_wp2_with fail
      go_at_call 10
      refine (fixed3_any _ (HE.out.gr g)).mono ?_
      rintro e w' ⟨rfl, hb⟩; obtain ⟨g, rfl⟩ := g.on hb; clear hb
      go_wp2_with fail
      go_ret
      exact ⟨rfl, g.ok⟩
    | true =>
      have hj := join_lab ha hb
      have ea : (a ++ ⟨#[32]⟩ ++ b : ByteArray).data.toList = a.data.toList ++ 32 :: b.data.toList := by rw [app_data, app_data]; simp
      have sz : (a ++ ⟨#[32]⟩ ++ b : ByteArray).size ≤ 1000000 := by
        rw [ByteArray.size_append, ByteArray.size_append]
        have : (⟨#[32]⟩ : ByteArray).size = 1 := rfl
        omega
      have sz2 : (a ++ ⟨#[32]⟩ : ByteArray).size ≤ 1000000 := by
        rw [ByteArray.size_append]
        have : (⟨#[32]⟩ : ByteArray).size = 1 := rfl
        omega
      have sz3 : (⟨#[32]⟩ ++ a : ByteArray).size ≤ 1000000 := by
        rw [ByteArray.size_append]
        have : (⟨#[32]⟩ : ByteArray).size = 1 := rfl
        omega
      have e1 : labB (LT (a ++ ⟨#[32]⟩ : ByteArray).data.toList) = false := lab_suf ((suf_iff _).2 ⟨a.data.toList, by rw [app_data]⟩)
      have e2 : labB (LT (⟨#[32]⟩ ++ a : ByteArray).data.toList) = false := lab_pre ((pre_iff _).2 ⟨a.data.toList, by rw [app_data]; rfl⟩)
      have WS := Lib.hid (fun w => width_any (a ++ ⟨#[32]⟩ ++ b) sz w)
      have LS := Lib.hid (fun w => label_any (a ++ ⟨#[32]⟩ ++ b) sz w)
      have L1 := Lib.hid (fun w => label_any (a ++ ⟨#[32]⟩) sz2 w)
      have L2 := Lib.hid (fun w => label_any (⟨#[32]⟩ ++ a) sz3 w)
      have WA := Lib.hid (fun w => width_any a hsa w)
      have WB := Lib.hid (fun w => width_any b hsb w)
      rw [ea, hj.1, Int.natCast_add, Int.natCast_add] at WS
      rw [ea, hj.2] at LS
      rw [e1] at L1
      rw [e2] at L2
      rw [ha] at LA
      rw [hb] at LB
      have la := LT_len a.data.toList
      have lb := LT_len b.data.toList
      have la2 : (LT a.data.toList).length ≤ 1000000 := by simp at la; omega
      have lb2 : (LT b.data.toList).length ≤ 1000000 := by simp at lb; omega
      clear la lb hj e1 e2 ea ha hb
      generalize (LT a.data.toList).length = na at *
      generalize (LT b.data.toList).length = nb at *
      rw [show ((1 : Nat) : Int) = 1 from rfl] at WS
      have hn : (na + nb + 1 ≤ 24 ∧ decide (na + nb + 1 ≤ 24) = true ∧ decide ((na : Int) + nb + 1 ≤ 24) = true) ∨ (24 < na + nb + 1 ∧ decide (na + nb + 1 ≤ 24) = false ∧ decide ((na : Int) + nb + 1 ≤ 24) = false) := by
        rcases Nat.lt_or_ge 24 (na + nb + 1) with h | h
        · exact .inr ⟨h, decide_eq_false (by omega), decide_eq_false (by omega)⟩
        · exact .inl ⟨h, decide_eq_true (by omega), decide_eq_true (by omega)⟩
      rcases hn with ⟨k1, k2, k3⟩ | ⟨k1, k2, k3⟩
      all_goals
        rw [k2] at LS
        clear k1 k2
        go_enter Tryd.func9, Tryd.ntmps9
        go_wp2_with fail
        go_at_call 23
        refine (LA.out _).mono ?_
        rintro e w' ⟨rfl, hb⟩; obtain ⟨g, rfl⟩ := Gr.of hb; clear hb
        go_wp2_with fail
        go_at_call 23
        refine (LB.out _).mono ?_
        rintro e w' ⟨rfl, hb⟩; obtain ⟨g, rfl⟩ := g.on hb; clear hb
        go_wp2_with fail
        go_at_call 24
        refine (WA.out _).mono ?_
        rintro e w' ⟨rfl, hb⟩; obtain ⟨g, rfl⟩ := g.on hb; clear hb
        go_wp2_with fail
        go_at_call 24
        refine (WB.out _).mono ?_
        rintro e w' ⟨rfl, hb⟩; obtain ⟨g, rfl⟩ := g.on hb; clear hb
        go_wp2_with fail
        go_at_call 10
        refine (fixed3_any _ (HE.out.gr g)).mono ?_
        rintro e w' ⟨rfl, hb⟩; obtain ⟨g, rfl⟩ := g.on hb; clear hb
        go_wp2_with fail
        go_at_call 24
        refine (WS.out _).mono ?_
        rintro e w' ⟨rfl, hb⟩; obtain ⟨g, rfl⟩ := g.on hb; clear hb
        go_wp2_with fail
        go_at_call 22
        refine (LS.out _).mono ?_
        rintro e w' ⟨rfl, hb⟩; obtain ⟨g, rfl⟩ := g.on hb; clear hb
        go_wp2_with fail
        go_at_call 22
        refine (L1.out _).mono ?_
        rintro e w' ⟨rfl, hb⟩; obtain ⟨g, rfl⟩ := g.on hb; clear hb
        go_wp2_with fail
        go_at_call 22
        refine (L2.out _).mono ?_
        rintro e w' ⟨rfl, hb⟩; obtain ⟨g, rfl⟩ := g.on hb; clear hb
        go_wp2_with fail
        go_ret
        exact ⟨rfl, g.ok⟩
end Go.Proofs.YtdokniohjdlmfaaDoor
