/- Contract of the document's sum of bytes. -/
import Derived.Test.YtjjmbndknjjjjaaDoorRows
import Derived.Test.YtjjmbndknjjjjaaDoorRMath
import Derived.Test.YtjjmbndknjjjjaaDoorKit3
import Derived.Laws.BitsAll
namespace Go.Proofs.YtjjmbndknjjjjaaDoor
open Go.ChangeShapes Go.WideShapes Go.ChangeAt Go.RowKit Rc

/-- A text's bytes, as numbers. -/
def bn (l : List UInt8) : List Nat := l.map (fun c => c.toNat)
theorem take_snoc (s : ByteArray) (k : Nat) (h : k < s.size) : s.data.toList.take (k + 1) = s.data.toList.take k ++ [s[k]] := by
  rw [List.take_succ_eq_append_getElem (by simpa using h)]; rfl
theorem bn_lt (l : List UInt8) : ∀ c ∈ bn l, c < 256 := by
  intro c hc
  obtain ⟨d, _, rfl⟩ := List.mem_map.1 hc
  exact d.toNat_lt

set_option maxHeartbeats 1000000 in
theorem rsum_any (s : ByteArray) (hs : s.size ≤ 9223372036854775807) (w : World) :
    Calls Tryd.prog 18 #[.string s] w fun e w' => e = .returned (.int .u32 (Rc.sum (bn s.data.toList) : Nat)) ∧ w = w' := by
  go_enter Tryd.func18, Tryd.ntmps18
  go_wp2
  go_loop [3, 4] (fun s3 s4 => ∃ (i q : Nat), i ≤ s.size ∧ s3 = .int .u32 q ∧ s4 = .int .i64 i ∧ q < 4294967296 ∧ Hid (q = run 4294967295 (bn (s.data.toList.take i)))) (fun _ s4 => s.size - (intOf s4).toNat)
  case atStart => exact ⟨0, 4294967295, Nat.zero_le _, rfl, rfl, by omega, rfl⟩
  case round =>
    obtain ⟨i, q, hi, rfl, rfl, hq, HQ⟩ := hrel
    by_cases hlt : i < s.size
    · have b1 := s[i].toNat_lt
      have HT : Hid (run 4294967295 (bn (s.data.toList.take (i + 1))) = byt q s[i].toNat) := by
        show _ = _
        rw [take_snoc s i hlt, bn, List.map_append, run_append, HQ.out]; rfl
      have hx : q ^^^ s[i].toNat < 4294967296 := Nat.xor_lt_two_pow (n := 32) hq (by omega)
      have hX : bits .xor .u32 (q : Int) (s[i].toNat : Int) = ((q ^^^ s[i].toNat : Nat) : Int) := u32_xor_nat q _ hq (by omega)
      have HB : Hid (byt q s[i].toNat = stps 8 (q ^^^ s[i].toNat)) := rfl
      go_wp2
      clear hX
      generalize q ^^^ s[i].toNat = x at *
      go_loop [3, 5] (fun s3 s5 => ∃ (k y : Nat), k ≤ 8 ∧ s3 = .int .u32 y ∧ s5 = .int .i64 k ∧ y < 4294967296 ∧ Hid (y = stps k x)) (fun _ s5 => 8 - (intOf s5).toNat)
      case atStart => exact ⟨0, x, by omega, rfl, rfl, hx, rfl⟩
      case round =>
        obtain ⟨k, y, hk, rfl, rfl, hy, HY⟩ := hrel
        by_cases hk8 : k < 8
        · have hkz : (k : Int) < 8 := by omega
          have HS : Hid (stp y = stps (k + 1) x) := by show _ = _; rw [stps_succ, HY.out]
          by_cases ho : y % 2 = 1
          · have hob : ((y : Int) % 2 == 1) = true := by simp; omega
            have hX : bits .xor .u32 ((y : Int) / 2) 3988292384 = ((y / 2 ^^^ 3988292384 : Nat) : Int) := u32_xor_nat (y / 2) 3988292384 (by omega) (by omega)
            have hE : Hid (y / 2 ^^^ 3988292384 = stps (k + 1) x) := by show _ = _; rw [← HS.out, stp_odd ho]
            have hZ : y / 2 ^^^ 3988292384 < 4294967296 := Nat.xor_lt_two_pow (n := 32) (by omega) (by omega)
            clear ho
            go_wp2
            go_round
            case rel => exact ⟨k + 1, _, hk8, rfl, by go_num, hZ, hE⟩
            case measure => simp [intOf]; omega
          · have hob : ((y : Int) % 2 == 1) = false := beq_false_of_ne (by omega)
            have hE : Hid (y / 2 = stps (k + 1) x) := by show _ = _; rw [← HS.out, stp_ev ho]
            clear ho
            go_wp2
            go_round
            case rel => exact ⟨k + 1, y / 2, hk8, by simp, by go_num, by omega, hE⟩
            case measure => simp [intOf]; omega
        · obtain rfl : k = 8 := by omega
          rw [show ((8 : Nat) : Int) = 8 from rfl]
          go_wp2
          go_round
          case rel => exact ⟨i + 1, y, hlt, rfl, by go_num, hy, by show _ = _; rw [HT.out, HB.out, ← HY.out]⟩
          case measure => simp [intOf]; omega
    · obtain rfl : i = s.size := by omega
      have E : Hid (Rc.sum (bn s.data.toList) = 4294967295 - q) := by show _ = _; rw [HQ.out, List.take_of_length_le (by simp)]; rfl
      go_wp2
      go_ret
      exact ⟨ret_int (by rw [E.out]; omega), rfl⟩
end Go.Proofs.YtjjmbndknjjjjaaDoor
