/- Contracts of the program's labels and widths. -/
import Derived.Test.YtdokniohjdlmfaaDoorCW6
import Derived.Test.YtdokniohjdlmfaaDoorCMath9
namespace Go.Proofs.YtdokniohjdlmfaaDoor
open Go.ChangeShapes Go.WideShapes Go.ChangeAt Go.RowKit Ck

theorem inlab_yes (c : Int) (h : okC c) (w : World) :
    Calls Tryd.prog 39 #[.int .i32 c] w fun e w' => e = .returned (.bool true) ∧ w = w' := by
  rcases ok_ways c h with ⟨a1, a2⟩ | ⟨a1, a2⟩ | ⟨a1, a2⟩ | a1 | a1 | ⟨a1, a2⟩
  all_goals
    clear h
    try subst a1
    try (have q1 : decide (97 ≤ c) = false := decide_eq_false (by omega))
    try (have q2 : decide (65 ≤ c) = false := decide_eq_false (by omega))
    try (have q3 : decide (c ≤ 90) = false := decide_eq_false (by omega))
    try (have q4 : decide (c ≤ 57) = false := decide_eq_false (by omega))
    try (have q5 : decide (c ≤ 122) = false := decide_eq_false (by omega))
    try (have b32 : (c == 32) = false := beq_false_of_ne (by omega))
    try (have b45 : (c == 45) = false := beq_false_of_ne (by omega))
    go_enter Tryd.func39, Tryd.ntmps39
    go_wp2
    go_ret
    exact ⟨rfl, rfl⟩
theorem inlab_no (c : Int) (h : ¬ okC c) (w : World) :
    Calls Tryd.prog 39 #[.int .i32 c] w fun e w' => e = .returned (.bool false) ∧ w = w' := by
  have b32 : (c == 32) = false := beq_false_of_ne (by unfold okC at h; omega)
  have b45 : (c == 45) = false := beq_false_of_ne (by unfold okC at h; omega)
  rcases no_ways c h with a1 | ⟨a1, a2⟩ | ⟨a1, a2⟩ | ⟨a1, a2⟩ | ⟨a1, a2⟩ | ⟨a1, a2⟩ | a1
  all_goals
    clear h
    try (have q1 : decide (97 ≤ c) = false := decide_eq_false (by omega))
    try (have q1 : decide (97 ≤ c) = true := decide_eq_true (by omega))
    try (have q2 : decide (65 ≤ c) = false := decide_eq_false (by omega))
    try (have q2 : decide (65 ≤ c) = true := decide_eq_true (by omega))
    try (have q3 : decide (c ≤ 90) = false := decide_eq_false (by omega))
    try (have q3 : decide (c ≤ 90) = true := decide_eq_true (by omega))
    try (have q4 : decide (c ≤ 57) = false := decide_eq_false (by omega))
    try (have q5 : decide (c ≤ 122) = false := decide_eq_false (by omega))
    try (have q6 : decide (48 ≤ c) = false := decide_eq_false (by omega))
    try (have q6 : decide (48 ≤ c) = true := decide_eq_true (by omega))
    try (have q7 : decide (192 ≤ c) = false := decide_eq_false (by omega))
    try (have q7 : decide (192 ≤ c) = true := decide_eq_true (by omega))
    try (have q8 : decide (c ≤ 591) = false := decide_eq_false (by omega))
    go_enter Tryd.func39, Tryd.ntmps39
    go_wp2
    go_ret
    exact ⟨rfl, rfl⟩

theorem next_one (w : World) (s : ByteArray) (pos : Nat) (ty : TypeId) (h : pos < s.size) {k : Nat} {c : Int} (e : oneT (s.data.toList.drop pos) = (k, c)) :
    (Instr.next (.pointer (some ⟨w.heap.size, 0, none⟩)) true ty).run Tryd.prog (w.iter s pos) = .ok (.tuple #[.bool true, .int .i64 pos, .int .i32 (runeOf c)]) (w.iter s (pos + k)) := by
  rw [run_next_any w s pos ty h, decode_one s pos h, e]
  have := dec_rune (k, c)
  rw [this.1, this.2]

theorem width_any (s : ByteArray) (hs : s.size ≤ 1000000) (w : World) :
    Calls Tryd.prog 24 #[.string s] w fun e w' => e = .returned (.int .i64 ((LT s.data.toList).length : Nat)) ∧ Below w.heap.size w w' := by
  obtain ⟨r, hr⟩ : ∃ r, (LT s.data.toList).length = r := ⟨_, rfl⟩
  rw [hr]
  have hsl : s.data.toList.length = s.size := by simp
  have hr2 := LT_len s.data.toList
  rw [hr] at hr2
  go_enter Tryd.func24, Tryd.ntmps24
  go_wp2
  go_loopw [3] (fun s3 wr => ∃ (p k : Nat), wr = w.iter s p ∧ p ≤ s.size ∧ s3 = .int .i64 k ∧ k ≤ p ∧ Hid (k + (LT (s.data.toList.drop p)).length = r)) (fun _ wr => s.size - wr.iterPos w.heap.size)
  case atStart => exact ⟨0, 0, rfl, Nat.zero_le _, rfl, Nat.le_refl _, by show _ = _; rw [List.drop_zero, Nat.zero_add]; exact hr⟩
  case round =>
    obtain ⟨p, k, rfl, hp, rfl, hk, HL⟩ := hrel
    by_cases hlt : p < s.size
    · have hat := LT_at s.data.toList p (by omega)
      have hol := oneT_len (s.data.toList.drop p) (by rw [List.length_drop]; omega)
      rw [List.length_drop, hsl] at hol
      obtain ⟨j, c, e⟩ : ∃ j c, oneT (s.data.toList.drop p) = (j, c) := ⟨_, _, rfl⟩
      have hnx : ∀ ty, (Instr.next (.pointer (some ⟨w.heap.size, 0, none⟩)) true ty).run Tryd.prog (w.iter s p) = _ := fun ty => next_one w s p ty hlt e
      rw [e] at hat hol
      simp only at hat hol
      obtain ⟨hj1, hj2⟩ := hol
      have HA : Hid (LT (s.data.toList.drop p) = c :: LT (s.data.toList.drop (p + j))) := hat
      clear hat e hsl hr hr2
      generalize runeOf c = rc at *
      go_wp2
      go_roundw
      case rel => exact ⟨p + j, k + 1, rfl, by omega, by go_num, by omega, by show _ = _; rw [← HL.out, HA.out, List.length_cons]; omega⟩
      case measure => simp; omega
    · have hnx : ∀ ty, (Instr.next (.pointer (some ⟨w.heap.size, 0, none⟩)) true ty).run Tryd.prog (w.iter s p) = _ := fun ty => run_next_end w s p ty hlt
      have E : Hid (k = r) := by show _ = _; rw [← HL.out, List.drop_of_length_le (by omega), LT_nil]; rfl
      go_wp2
      go_ret
      exact ⟨ret_int (by rw [E.out]), iter_below _ _ _⟩

theorem pre_any (s : ByteArray) (w : World) :
    Calls Tryd.prog 37 #[.string s, .string ⟨#[32]⟩] w fun e w' => e = .returned (.bool (Lib.hasPrefix s.data.toList [32])) ∧ w = w' :=
  (Tryd.strings_HasPrefix s ⟨#[32]⟩ w).mono fun e w' ⟨a, b⟩ => ⟨a, b.symm⟩
theorem suf_any (s : ByteArray) (hs : s.size ≤ 1000000) (w : World) :
    Calls Tryd.prog 38 #[.string s, .string ⟨#[32]⟩] w fun e w' => e = .returned (.bool (Lib.hasSuffix s.data.toList [32])) ∧ w = w' :=
  (Tryd.strings_HasSuffix s ⟨#[32]⟩ w (by omega)).mono fun e w' ⟨a, b⟩ => ⟨a, b.symm⟩

set_option maxHeartbeats 1000000 in
theorem label_any (s : ByteArray) (hs : s.size ≤ 1000000) (w : World) :
    Calls Tryd.prog 22 #[.string s] w fun e w' => e = .returned (.bool (labB (LT s.data.toList))) ∧ Below w.heap.size w w' := by
  obtain ⟨r, hr⟩ : ∃ r, labB (LT s.data.toList) = r := ⟨_, rfl⟩
  rw [hr]
  have HR := Lib.hid hr
  clear hr
  have HP := Lib.hid (fun w => pre_any s w)
  have HS := Lib.hid (fun w => suf_any s hs w)
  cases hp : Lib.hasPrefix s.data.toList [32] with
  | true =>
    have E : Hid (r = false) := by show _ = _; rw [← HR.out]; exact lab_pre hp
    rw [hp] at HP
    clear hp
    go_enter Tryd.func22, Tryd.ntmps22
    go_wp2_with fail
    go_at_call 37
    refine (HP.out _).mono ?_
    rintro e w' ⟨rfl, rfl⟩
    go_wp2_with fail
    go_ret
    exact ⟨ret_bool (by rw [E.out]), Below.refl _ _⟩
  | false =>
    cases hq : Lib.hasSuffix s.data.toList [32] with
    | true =>
      have E : Hid (r = false) := by show _ = _; rw [← HR.out]; exact lab_suf hq
      rw [hp] at HP
      rw [hq] at HS
      clear hp hq
      go_enter Tryd.func22, Tryd.ntmps22
      go_wp2_with fail
      go_at_call 37
      refine (HP.out _).mono ?_
      rintro e w' ⟨rfl, rfl⟩
      go_wp2_with fail
      go_at_call 38
      refine (HS.out _).mono ?_
      rintro e w' ⟨rfl, rfl⟩
      go_wp2_with fail
      go_ret
      exact ⟨ret_bool (by rw [E.out]), Below.refl _ _⟩
    | false =>
      have HEnd := Lib.hid (fun ok => lab_end hp hq ok)
      rw [hp] at HP
      rw [hq] at HS
      clear hp hq
      have hsl : s.data.toList.length = s.size := by simp
      go_enter Tryd.func22, Tryd.ntmps22
      go_wp2_with fail
      go_at_call 37
      refine (HP.out _).mono ?_
      rintro e w' ⟨rfl, rfl⟩
      go_wp2_with fail
      go_at_call 38
      refine (HS.out _).mono ?_
      rintro e w' ⟨rfl, rfl⟩
      go_wp2_with fail
      go_loopw [3] (fun s3 wr => ∃ (p k : Nat), wr = w.iter s p ∧ p ≤ s.size ∧ s3 = .int .i64 k ∧ k ≤ p ∧ Hid (∃ a, LT s.data.toList = a ++ LT (s.data.toList.drop p) ∧ a.length = k ∧ ∀ c ∈ a, okC c)) (fun _ wr => s.size - wr.iterPos w.heap.size)
      case atStart => exact ⟨0, 0, rfl, Nat.zero_le _, rfl, Nat.le_refl _, ⟨[], by simp, rfl, by simp⟩⟩
      case round =>
        obtain ⟨p, k, rfl, hpp, rfl, hk, HL⟩ := hrel
        by_cases hlt : p < s.size
        · have hat := LT_at s.data.toList p (by omega)
          have hol := oneT_len (s.data.toList.drop p) (by rw [List.length_drop]; omega)
          have hbd := oneT_bd (s.data.toList.drop p)
          rw [List.length_drop, hsl] at hol
          obtain ⟨j, c, e⟩ : ∃ j c, oneT (s.data.toList.drop p) = (j, c) := ⟨_, _, rfl⟩
          have hnx : ∀ ty, (Instr.next (.pointer (some ⟨w.heap.size, 0, none⟩)) true ty).run Tryd.prog (w.iter s p) = _ := fun ty => next_one w s p ty hlt e
          rw [e] at hat hol hbd
          simp only at hat hol hbd
          obtain ⟨hj1, hj2⟩ := hol
          have HA : Hid (LT (s.data.toList.drop p) = c :: LT (s.data.toList.drop (p + j))) := hat
          by_cases hok : okC c
          · have HI := Lib.hid (fun w => inlab_yes (runeOf c) ((rune_ok hbd.1).2 hok) w)
            have HN : Hid (∃ a, LT s.data.toList = a ++ LT (s.data.toList.drop (p + j)) ∧ a.length = k + 1 ∧ ∀ c ∈ a, okC c) := by
              obtain ⟨a, h1, h2, h3⟩ := HL.out
              refine ⟨a ++ [c], by rw [h1, HA.out]; simp, by simp [h2], ?_⟩
              intro x hx
              simp only [List.mem_append, List.mem_singleton] at hx
              rcases hx with hx | rfl
              · exact h3 x hx
              · exact hok
            clear hat e hbd hok
            generalize runeOf c = rc at *
            go_wp2_with fail
            go_at_call 39
            refine (HI.out _).mono ?_
            rintro e w' ⟨rfl, rfl⟩
            go_wp2_with fail
            go_roundw
            case rel => exact ⟨p + j, k + 1, rfl, by omega, by go_num, by omega, HN⟩
            case measure => simp; omega
          · have HI := Lib.hid (fun w => inlab_no (runeOf c) (fun h => hok ((rune_ok hbd.1).1 h)) w)
            have E : Hid (r = false) := by
              show _ = _
              obtain ⟨a, h1, h2, h3⟩ := HL.out
              rw [← HR.out]; exact lab_bad (by rw [h1, HA.out]) hok
            clear hat e hbd hok
            generalize runeOf c = rc at *
            go_wp2_with fail
            go_at_call 39
            refine (HI.out _).mono ?_
            rintro e w' ⟨rfl, rfl⟩
            go_wp2_with fail
            go_ret
            exact ⟨ret_bool (by rw [E.out]), iter_below _ _ _⟩
        · have hnx : ∀ ty, (Instr.next (.pointer (some ⟨w.heap.size, 0, none⟩)) true ty).run Tryd.prog (w.iter s p) = _ := fun ty => run_next_end w s p ty hlt
          have E : Hid (r = (decide (1 ≤ k) && decide (k ≤ 24))) := by
            show _ = _
            obtain ⟨a, h1, h2, h3⟩ := HL.out
            rw [List.drop_of_length_le (by omega), LT_nil, List.append_nil] at h1
            have := HEnd.out (by rw [h1]; exact h3)
            rw [HR.out, h1, h2] at this
            exact this
          by_cases h1 : 1 ≤ k
          · have g1 : decide ((1 : Int) ≤ k) = true := decide_eq_true (by omega)
            by_cases h2 : k ≤ 24
            · have g2 : decide ((k : Int) ≤ 24) = true := decide_eq_true (by omega)
              go_wp2
              go_ret
              exact ⟨ret_bool (by rw [E.out, decide_eq_true h1, decide_eq_true h2]; rfl), iter_below _ _ _⟩
            · have g2 : decide ((k : Int) ≤ 24) = false := decide_eq_false (by omega)
              go_wp2
              go_ret
              exact ⟨ret_bool (by rw [E.out, decide_eq_true h1, decide_eq_false h2]; rfl), iter_below _ _ _⟩
          · have g1 : decide ((1 : Int) ≤ k) = false := decide_eq_false (by omega)
            go_wp2
            go_ret
            exact ⟨ret_bool (by rw [E.out, decide_eq_false h1]; rfl), iter_below _ _ _⟩
end Go.Proofs.YtdokniohjdlmfaaDoor
