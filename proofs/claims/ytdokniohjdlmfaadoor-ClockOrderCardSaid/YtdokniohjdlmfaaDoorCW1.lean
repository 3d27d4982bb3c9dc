/- Contracts of the document's texts of times: digits, minutes. -/
import Derived.Test.YtdokniohjdlmfaaDoorRows
import Derived.Test.YtdokniohjdlmfaaDoorCMath
import Derived.Test.YtdokniohjdlmfaaDoorKit3
import Derived.Lib.Hide
namespace Go.Proofs.YtdokniohjdlmfaaDoor
open Go.ChangeShapes Go.WideShapes Go.ChangeAt Go.RowKit Ck

theorem rnumber_any (n : Int) (many : Nat) (h0 : 0 ≤ n) (hn : n ≤ 1000000000) (hm : many ≤ 10) (w : World) :
    Calls Tryd.prog 27 #[.int .i64 n, .int .i64 many] w fun e w' => e = .returned (.string ⟨(low n many).toArray⟩) ∧ Below w.heap.size w w' := by
  go_enter Tryd.func27, Tryd.ntmps27
  go_wp2
  go_loopw [0, 5, 6] (fun s0 s5 s6 wr => ∃ (g : Gr w) (i : Nat), wr = g.val ∧ i ≤ many ∧ s0 = .int .i64 (n / 10 ^ i) ∧ s5 = .string ⟨(low n i).toArray⟩ ∧ s6 = .int .i64 i) (fun _ _ s6 _ => many - (intOf s6).toNat)
  case atStart => exact ⟨⟨w, Below.refl _ _⟩, 0, rfl, Nat.zero_le _, by simp, rfl, rfl⟩
  case round =>
    obtain ⟨g, i, rfl, hi, rfl, rfl, rfl⟩ := hrel
    by_cases hlt : i < many
    · have d1 := div_nn h0 i
      have d2 := div_le h0 i
      have HL := Lib.hid (low_len n i)
      have DS : Hid (n / 10 ^ i / 10 = n / 10 ^ (i + 1)) := div_step n i
      have LS : Hid (low n (i + 1) = dig (n / 10 ^ i % 10) :: low n i) := rfl
      have hl : (low n i).length ≤ 10 := by rw [HL.out]; omega
      generalize n / 10 ^ i = q at *
      have HC := conv_one (P := Tryd.prog) g.val (48 + q % 10) (dig (q % 10)) (dig_nat (by omega) (by omega)) Tryd.underlying60 Tryd.underlying5 Tryd.underlying9
      go_wp2
      go_roundw
      case rel =>
        obtain ⟨g', hg'⟩ := g.up0 (o := .cells #[.int .u8 (48 + q % 10)] 5)
        exact ⟨g', i + 1, hg', hlt, by rw [DS.out], by rw [LS.out]; exact congrArg Value.string (ByteArray.mk_append_mk [dig (q % 10)] (low n i)), by go_num⟩
      case measure => simp [intOf]; omega
    · obtain rfl : i = many := by omega
      go_wp2
      go_ret
      exact ⟨rfl, g.ok⟩


theorem rminute_any (n : Int) (h0 : 0 ≤ n) (hn : n ≤ 1000000) (w : World) :
    Calls Tryd.prog 12 #[.int .i64 n] w fun e w' => e = .returned (.string ⟨(minT n).toArray⟩) ∧ Below w.heap.size w w' := by
  have HN := Lib.hid (fun (n : Int) (h0 : 0 ≤ n) (hn : n ≤ 1000000000) (w : World) => rnumber_any n 2 h0 hn (by omega) w)
  have l1 : (low (n / 60) 2).length ≤ 10 := by rw [low_len]; omega
  have l2 : (low (n % 60) 2).length ≤ 10 := by rw [low_len]; omega
  have HM : Hid (minT n = low (n / 60) 2 ++ [58] ++ low (n % 60) 2) := rfl
  go_enter Tryd.func12, Tryd.ntmps12
  go_wp2_with fail
  go_at_call 27
  refine (HN.out (n / 60) (by omega) (by omega) _).mono ?_
  rintro e w' ⟨rfl, hb⟩
  obtain ⟨g, rfl⟩ := Gr.of hb
  clear hb
  go_wp2_with fail
  go_at_call 27
  refine (HN.out (n % 60) (by omega) (by omega) _).mono ?_
  rintro e w' ⟨rfl, hb⟩
  obtain ⟨g, rfl⟩ := g.on hb
  clear hb
  go_wp2_with fail
  go_ret
  exact ⟨congrArg (fun x => Ending.returned (Value.string x)) (by rw [HM.out]; exact app3 (low (n / 60) 2) [58] (low (n % 60) 2)), g.ok⟩

theorem rreadm_any (l : List UInt8) (w : World) :
    Calls Tryd.prog 14 #[.string ⟨l.toArray⟩] w fun e w' => e = .returned (.int .i64 (readM l)) ∧ Below w.heap.size w w' := by
  obtain ⟨r, hr⟩ : ∃ r, readM l = r := ⟨_, rfl⟩
  rw [hr]
  have HR := Lib.hid hr
  clear hr
  go_enter Tryd.func14, Tryd.ntmps14
  go_wp2
  go_loopw [3] (fun s wr => ∃ (g : Gr w) (k : Nat), wr = g.val ∧ k ≤ 1441 ∧ s = .int .i64 k ∧ Hid (∀ j : Nat, j < k → minT j ≠ l)) (fun s _ => 1441 - (intOf s).toNat)
  case atStart => exact ⟨⟨w, Below.refl _ _⟩, 0, rfl, by omega, rfl, fun j hj => absurd hj (Nat.not_lt_zero _)⟩
  case round =>
    obtain ⟨g, k, rfl, hk, rfl, HO⟩ := hrel
    by_cases hlt : k < 1441
    · have hk1 : (k : Int) ≤ 1440 := by omega
      by_cases h : minT k = l
      · have E : Hid (r = k) := by show _ = _; rw [← HR.out]; exact readM_at HO.out hlt h
        have hb : (minT k == l) = true := by simpa using h
        clear h
        go_wp2_with (go_at_call 12; (with_reducible refine (rminute_any _ (by omega) (by omega) _).mono ?_); rintro e w' ⟨rfl, hb⟩; obtain ⟨g, rfl⟩ := g.on hb; clear hb)
        go_ret
        exact ⟨ret_int (by rw [E.out]), g.ok⟩
      · have HO' : Hid (∀ j : Nat, j < k + 1 → minT j ≠ l) := by
          intro j hj
          by_cases e : j = k
          · subst e; exact h
          · exact HO.out j (by omega)
        have hb : (minT k == l) = false := by simpa using h
        clear h
        go_wp2_with (go_at_call 12; (with_reducible refine (rminute_any _ (by omega) (by omega) _).mono ?_); rintro e w' ⟨rfl, hb⟩; obtain ⟨g, rfl⟩ := g.on hb; clear hb)
        go_roundw
        case rel => exact ⟨g, k + 1, rfl, hlt, by go_num, HO'⟩
        case measure => simp [intOf]; omega
    · obtain rfl : k = 1441 := by omega
      have E : Hid (r = -1) := by show _ = _; rw [← HR.out]; exact readM_none HO.out
      rw [show ((1441 : Nat) : Int) = 1441 from rfl]
      go_wp2_with fail
      go_ret
      exact ⟨ret_int (by rw [E.out]), g.ok⟩
end Go.Proofs.YtdokniohjdlmfaaDoor
