/- Contracts of the program's writer: signed numbers, texts, flags; its bytes. -/
import Derived.Test.YtldfemohnommoaaPV1
namespace Go.Proofs.Ytldfemohnommoaa
open Go.ChangeShapes Go.WideShapes Go.ChangeAt Go.RowKit Go.Joins Fr Pk

theorem wr_signed_any (D : Nat) (n : Int) (h1 : -9223372036854775808 ≤ n) (h2 : n ≤ 9223372036854775807) (l : List UInt8) (F : Nat → Prop) (hl : l.length + 10 ≤ 140737488355328) (w : World) (h : WrAt w D l F) :
    Calls Try.prog 12 #[.pointer (some ⟨D, 0, none⟩), .int .i64 n] w fun e w' => e = .returned (.tuple #[]) ∧ WrTo w w' D (l ++ numT (zig n)) F := by
  have hz : zig n < 18446744073709551616 := by unfold zig; split <;> omega
  have HN := Lib.hid (wr_number_any D (zig n) hz l F hl w h)
  generalize hr : numT (zig n) = r at *
  clear hr hz h
  by_cases h0 : 0 ≤ n
  · rw [show ((zig n : Nat) : Int) = 2 * n by unfold zig; rw [if_pos h0]; omega] at HN
    have hw1 : IntKind.u64.wrap n = n := by rw [IntKind.wrap_u64]; omega
    have hw2 : IntKind.u64.wrap (2 * n) = 2 * n := by rw [IntKind.wrap_u64]; omega
    clear h1 h2
    go_enter Try.func12, Try.ntmps12
    go_wp2_with fail
    go_at_call 10
    refine HN.out.mono ?_
    rintro e w' ⟨rfl, hb⟩
    go_wp2_with fail
    first | go_end0 | refine bodyPost_ret (results_none rfl _ _ _) rfl ?_
    exact ⟨rfl, hb⟩
  · rw [show ((zig n : Nat) : Int) = 2 * (-(n + 1)) + 1 by unfold zig; rw [if_neg h0]; omega] at HN
    have hw0 : IntKind.i64.wrap (n + 1) = n + 1 := by rw [IntKind.wrap_i64]; omega
    have hw3 : IntKind.i64.wrap (-(n + 1)) = -(n + 1) := by rw [IntKind.wrap_i64]; omega
    have hw1 : IntKind.u64.wrap (-(n + 1)) = -(n + 1) := by rw [IntKind.wrap_u64]; omega
    have hw2 : IntKind.u64.wrap (2 * (-(n + 1))) = 2 * (-(n + 1)) := by rw [IntKind.wrap_u64]; omega
    have hw4 : IntKind.u64.wrap (2 * (-(n + 1)) + 1) = 2 * (-(n + 1)) + 1 := by rw [IntKind.wrap_u64]; omega
    clear h1 h2
    go_enter Try.func12, Try.ntmps12
    go_wp2_with fail
    go_at_call 10
    refine HN.out.mono ?_
    rintro e w' ⟨rfl, hb⟩
    go_wp2_with fail
    first | go_end0 | refine bodyPost_ret (results_none rfl _ _ _) rfl ?_
    exact ⟨rfl, hb⟩
theorem wr_signed_nil (n : Int) (w : World) :
    Calls Try.prog 12 #[.pointer none, .int .i64 n] w fun e w' => e = .returned (.tuple #[]) ∧ w = w' := by
  have HN := Lib.hid (fun n => wr_number_nil n w)
  by_cases h0 : 0 ≤ n
  all_goals
    go_enter Try.func12, Try.ntmps12
    go_wp2_with fail
    go_at_call 10
    refine (HN.out _).mono ?_
    rintro e w' ⟨rfl, rfl⟩
    go_wp2_with fail
    first | go_end0 | refine bodyPost_ret (results_none rfl _ _ _) rfl ?_
    exact ⟨rfl, rfl⟩

theorem wr_flag_any (D : Nat) (b : Bool) (l : List UInt8) (F : Nat → Prop) (hl : l.length + 10 ≤ 140737488355328) (w : World) (h : WrAt w D l F) :
    Calls Try.prog 16 #[.pointer (some ⟨D, 0, none⟩), .bool b] w fun e w' => e = .returned (.tuple #[]) ∧ WrTo w w' D (l ++ flagT b) F := by
  rw [flag_num]
  have HN := Lib.hid (wr_number_any D (if b then 1 else 0) (by split <;> omega) l F hl w h)
  clear h
  cases b
  all_goals
    simp only [Bool.false_eq_true, if_true, if_false] at HN ⊢
    go_enter Try.func16, Try.ntmps16
    go_wp2_with fail
    go_at_call 10
    refine HN.out.mono ?_
    rintro e w' ⟨rfl, hb⟩
    go_wp2_with fail
    first | go_end0 | refine bodyPost_ret (results_none rfl _ _ _) rfl ?_
    exact ⟨rfl, hb⟩
theorem wr_flag_nil (b : Bool) (w : World) :
    Calls Try.prog 16 #[.pointer none, .bool b] w fun e w' => e = .returned (.tuple #[]) ∧ w = w' := by
  have HN := Lib.hid (fun n => wr_number_nil n w)
  cases b
  all_goals
    go_enter Try.func16, Try.ntmps16
    go_wp2_with fail
    go_at_call 10
    refine (HN.out _).mono ?_
    rintro e w' ⟨rfl, rfl⟩
    go_wp2_with fail
    first | go_end0 | refine bodyPost_ret (results_none rfl _ _ _) rfl ?_
    exact ⟨rfl, rfl⟩

set_option maxHeartbeats 1000000 in
theorem wr_text_any (D : Nat) (s : ByteArray) (l : List UInt8) (F : Nat → Prop) (hl : l.length + s.size + 10 ≤ 140737488355328) (w : World) (h : WrAt w D l F) :
    Calls Try.prog 14 #[.pointer (some ⟨D, 0, none⟩), .string s] w fun e w' => e = .returned (.tuple #[]) ∧ WrTo w w' D (l ++ textT s.data.toList) F := by
  obtain ⟨i0, hi0, hq0, hq1, hq2⟩ := info_parts u8_info
  have HN := Lib.hid (wr_number_any D s.size (by omega) l F (by omega) w h)
  have hl10 := num_len10 (n := s.size) (by omega)
  have HT : Hid (l ++ textT s.data.toList = l ++ numT s.size ++ s.data.toList) := by show _ = _; unfold textT; rw [List.append_assoc]; rfl
  generalize hp : numT s.size = p at *
  clear hp h
  have hw1 : IntKind.u64.wrap (s.size : Int) = s.size := by rw [IntKind.wrap_u64]; omega
  have hmx : (l ++ p).length + s.size ≤ maxLen := by unfold maxLen; simp; omega
  have hby : (l ++ p).length + s.size ≤ 140737488355328 := by simp; omega
  go_enter Try.func14, Try.ntmps14
  go_wp2_with fail
  go_at_call 10
  refine HN.out.mono ?_
  rintro e w1 ⟨rfl, F1, ⟨v, hIn⟩, o1, i1⟩
  have hc := hIn.cell
  have HI := Lib.hid hIn
  have O1 := Lib.hid o1
  have I1 := Lib.hid i1
  clear hIn o1 i1
  go_wp2_with (at_builtin; refine wpList_text_at rfl _ _ _ _ (by rfl) 0 5 i0 Try.underlying37 Try.underlying9 hi0 hq0 hq1 hq2 v (l ++ p).length _ rfl HI.out.own s rfl hmx hby (Nat.zero_le _) ?_)
  intro v' w3 hown hgr hat
  obtain ⟨A', c', rfl, _⟩ := Sl.of_own hown
  have ho : Off (fun k => v.ownBlock = some k) w1 w3 := Off.of_grown hgr fun k hk => hk
  obtain ⟨c3, f3⟩ := HI.out.mid ho
  have HO := Lib.hid ho
  have HOW : Hid (w3.ownsRow 0 5 1 (.slice A' (l.length + p.length + s.size) c') (l ++ p ++ s.data.toList).length (bl (l ++ p ++ s.data.toList))) := by
    show World.ownsRow _ _ _ _ _ _ _
    rw [bl_app (l ++ p), ← strCells_bl, List.length_append, List.length_append]; exact hown
  have HAT := Lib.hid hat
  clear ho hown hgr hat
  go_wp2_with fail
  first | go_end0 | refine bodyPost_ret (results_none rfl _ _ _) rfl ?_
  refine ⟨rfl, ?_⟩
  rw [HT.out]
  exact WrTo.step O1.out I1.out (HI.out.set HO.out HOW.out fun k hk => by
    rcases HAT.out with e | e
    · exact .inl (by rw [← e]; exact hk)
    · exact .inr (by rw [e] at hk; have := Option.some.inj hk; omega))
theorem wr_text_nil (s : ByteArray) (w : World) :
    Calls Try.prog 14 #[.pointer none, .string s] w fun e w' => e = .returned (.tuple #[]) ∧ w = w' := by
  go_enter Try.func14, Try.ntmps14
  go_wp2
  first | go_end0 | refine bodyPost_ret (results_none rfl _ _ _) rfl ?_
  exact ⟨rfl, rfl⟩

theorem wr_bytes_any (D : Nat) (l : List UInt8) (F : Nat → Prop) (hl : l.length ≤ 140737488355328) (w : World) (h : WrAt w D l F) :
    Calls Try.prog 18 #[.pointer (some ⟨D, 0, none⟩)] w (RetB l w) := by
  obtain ⟨v, h⟩ := h
  have hc := h.cell
  obtain ⟨A, c, rfl, h1, h2, h3, h4, _⟩ := BAt.of_own h.own
  have HC := Lib.hid (clone_any A c l h1 h2 h4 hl w h3)
  clear h h1 h2 h3 h4
  go_enter Try.func18, Try.ntmps18
  go_wp2_with fail
  go_at_call 26
  refine HC.out.mono ?_
  rintro e w' ⟨v, rfl, hown, hb⟩
  have HO := Lib.hid hown
  have HB := Lib.hid hb
  clear hown hb
  go_wp2_with fail
  go_ret
  exact ⟨v, rfl, HO.out, HB.out⟩
theorem wr_bytes_nil (w : World) :
    Calls Try.prog 18 #[.pointer none] w fun e w' => e = .returned (.slice none 0 0) ∧ w = w' := by
  go_enter Try.func18, Try.ntmps18
  go_wp2
  go_ret
  exact ⟨rfl, rfl⟩
end Go.Proofs.Ytldfemohnommoaa
