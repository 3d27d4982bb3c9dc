/- Contract of the document's first letter of a text. -/
import Derived.Test.YtdokniohjdlmfaaDoorRows
import Derived.Test.YtdokniohjdlmfaaDoorCMath4
import Derived.Test.YtdokniohjdlmfaaDoorKit3
namespace Go.Proofs.YtdokniohjdlmfaaDoor
open Go.ChangeShapes Go.WideShapes Go.ChangeAt Go.RowKit Ck

theorem drop_at (s : ByteArray) (k : Nat) (h : k < s.size) : s.data.toList.drop k = s[k] :: s.data.toList.drop (k + 1) := by
  rw [List.drop_eq_getElem_cons (by simpa using h)]; rfl
theorem ret_pair {a b c d : Int} (h1 : a = c) (h2 : b = d) : Ending.returned (.tuple #[.int .i64 a, .int .i64 b]) = .returned (.tuple #[.int .i64 c, .int .i64 d]) := by rw [h1, h2]

set_option maxRecDepth 100000 in
set_option maxHeartbeats 2000000 in
theorem rone_1 (s : ByteArray) (hs : 0 < s.size) (h1 : (192 : Int) ≤ s[0].toNat) (h2 : (s[0].toNat : Int) < 224) (hm : s.size ≤ 9223372036854775807) (w : World) :
    Calls Tryd.prog 40 #[.string s] w fun e w' => e = .returned (.tuple #[.int .i64 ((contT 1 128 ((s[0].toNat : Int) - 192) (s.data.toList.drop 1)).1 : Nat), .int .i64 (contT 1 128 ((s[0].toNat : Int) - 192) (s.data.toList.drop 1)).2]) ∧ w = w' := by
  obtain ⟨r, hr⟩ : ∃ r, contT 1 128 ((s[0].toNat : Int) - 192) (s.data.toList.drop 1) = r := ⟨_, rfl⟩
  rw [hr]
  have HR := Lib.hid hr
  clear hr
  have hsz : (0 : Int) < s.size := by omega
  have b0 := s[0].toNat_lt
  by_cases hlen : s.size < 1 + 1
  · have E : Hid (r = (1, -1)) := by show _ = _; rw [← HR.out]; exact cont_short (by simp; omega)
    have hlz : (s.size : Int) < 2 := by omega
    clear hlen
    go_enter Tryd.func40, Tryd.ntmps40
    go_wp2
    go_ret2
    exact ⟨ret_pair (by rw [E.out]; rfl) (by rw [E.out]), rfl⟩
  · have hlz : (2 : Int) ≤ s.size := by omega
    go_enter Tryd.func40, Tryd.ntmps40
    go_wp2
    go_loop [4, 7] (fun s4 s7 => ∃ (k : Nat) (c : Int), k ≤ 1 ∧ 0 ≤ c ∧ c < 32 * 64 ^ k ∧ s4 = .int .i64 c ∧ s7 = .int .i64 ((k : Int) + 1) ∧ Hid (foldC (1 - k) c (s.data.toList.drop (k + 1)) = foldC 1 ((s[0].toNat : Int) - 192) (s.data.toList.drop 1))) (fun _ s7 => 3 - (intOf s7).toNat)
    case atStart => exact ⟨0, _, by omega, by omega, by simp; omega, rfl, rfl, rfl⟩
    case round =>
      obtain ⟨k, c, hk, hc0, hc1, rfl, rfl, HV⟩ := hrel
      have P := pow64 (k := k) (by omega)
      have PS : Hid ((64 : Int) ^ (k + 1) = 64 ^ k * 64) := Int.pow_succ 64 k
      generalize (64 : Int) ^ k = q at *
      by_cases hlt : k < 1
      · have hkz : (k : Int) + 1 < s.size := by omega
        have hks : k + 1 < s.size := by omega
        have hd := drop_at s (k + 1) hks
        have hmk : 1 - k = (1 - (k + 1)) + 1 := by omega
        have HD : Hid (foldC ((1 - (k + 1)) + 1) c (s[k + 1] :: s.data.toList.drop (k + 1 + 1)) = foldC 1 ((s[0].toNat : Int) - 192) (s.data.toList.drop 1)) := by show _ = _; rw [← HV.out, hmk, hd]
        clear hd hmk
        have b1 := s[k + 1].toNat_lt
        by_cases h3 : (s[k + 1].toNat : Int) < 128
        · have E : Hid (r = (1, -1)) := by show _ = _; rw [← HR.out]; exact cont_none (by rw [← HD.out]; exact foldC_none (by omega))
          go_wp2
          go_ret2
          exact ⟨ret_pair (by rw [E.out]; rfl) (by rw [E.out]), rfl⟩
        · by_cases h4 : (191 : Int) < s[k + 1].toNat
          · have E : Hid (r = (1, -1)) := by show _ = _; rw [← HR.out]; exact cont_none (by rw [← HD.out]; exact foldC_none (by omega))
            go_wp2
            go_ret2
            exact ⟨ret_pair (by rw [E.out]; rfl) (by rw [E.out]), rfl⟩
          · have E : Hid (foldC (1 - (k + 1)) (64 * c + s[k + 1].toNat - 128) (s.data.toList.drop (k + 1 + 1)) = foldC 1 ((s[0].toNat : Int) - 192) (s.data.toList.drop 1)) := by show _ = _; rw [← HD.out, foldC_step (by omega)]
            go_wp2
            go_round
            case rel => exact ⟨k + 1, 64 * c + s[k + 1].toNat - 128, by omega, by omega, by rw [PS.out]; omega, rfl, by congr 1, E⟩
            case measure => simp [intOf]; omega
      · obtain rfl : k = 1 := by omega
        have hV : foldC 1 ((s[0].toNat : Int) - 192) (s.data.toList.drop 1) = some c := by rw [← HV.out]; rfl
        rw [show ((1 : Nat) : Int) = 1 from rfl]
        by_cases hb : badC 128 c
        · have E : Hid (r = (1, -1)) := by show _ = _; rw [← HR.out]; exact cont_bad hV hb
          have hb' : c < 128 ∨ (128 ≤ c ∧ 1114111 < c) ∨ (128 ≤ c ∧ 55296 ≤ c ∧ c < 57344) := by unfold badC at hb; omega
          clear hb hV
          rcases hb' with h5 | ⟨h5, h6⟩ | ⟨h5, h6, h7⟩
          all_goals go_wp2
          all_goals go_ret2
          all_goals exact ⟨ret_pair (by rw [E.out]; rfl) (by rw [E.out]), rfl⟩
        · have E : Hid (r = (1 + 1, c)) := by show _ = _; rw [← HR.out]; exact cont_ok hV hb
          have hb' : 128 ≤ c ∧ c ≤ 1114111 ∧ (c < 55296 ∨ (55296 ≤ c ∧ 57344 ≤ c)) := by unfold badC at hb; omega
          clear hb hV
          obtain ⟨h5, h6, h7 | ⟨h7, h8⟩⟩ := hb'
          all_goals go_wp2
          all_goals go_ret2
          all_goals exact ⟨ret_pair (by rw [E.out]; rfl) (by rw [E.out]), rfl⟩

set_option maxRecDepth 100000 in
set_option maxHeartbeats 2000000 in
theorem rone_2 (s : ByteArray) (hs : 0 < s.size) (h1 : (224 : Int) ≤ s[0].toNat) (h2 : (s[0].toNat : Int) < 240) (hm : s.size ≤ 9223372036854775807) (w : World) :
    Calls Tryd.prog 40 #[.string s] w fun e w' => e = .returned (.tuple #[.int .i64 ((contT 2 2048 ((s[0].toNat : Int) - 224) (s.data.toList.drop 1)).1 : Nat), .int .i64 (contT 2 2048 ((s[0].toNat : Int) - 224) (s.data.toList.drop 1)).2]) ∧ w = w' := by
  obtain ⟨r, hr⟩ : ∃ r, contT 2 2048 ((s[0].toNat : Int) - 224) (s.data.toList.drop 1) = r := ⟨_, rfl⟩
  rw [hr]
  have HR := Lib.hid hr
  clear hr
  have hsz : (0 : Int) < s.size := by omega
  have b0 := s[0].toNat_lt
  by_cases hlen : s.size < 2 + 1
  · have E : Hid (r = (1, -1)) := by show _ = _; rw [← HR.out]; exact cont_short (by simp; omega)
    have hlz : (s.size : Int) < 3 := by omega
    clear hlen
    go_enter Tryd.func40, Tryd.ntmps40
    go_wp2
    go_ret2
    exact ⟨ret_pair (by rw [E.out]; rfl) (by rw [E.out]), rfl⟩
  · have hlz : (3 : Int) ≤ s.size := by omega
    go_enter Tryd.func40, Tryd.ntmps40
    go_wp2
    go_loop [4, 7] (fun s4 s7 => ∃ (k : Nat) (c : Int), k ≤ 2 ∧ 0 ≤ c ∧ c < 32 * 64 ^ k ∧ s4 = .int .i64 c ∧ s7 = .int .i64 ((k : Int) + 1) ∧ Hid (foldC (2 - k) c (s.data.toList.drop (k + 1)) = foldC 2 ((s[0].toNat : Int) - 224) (s.data.toList.drop 1))) (fun _ s7 => 4 - (intOf s7).toNat)
    case atStart => exact ⟨0, _, by omega, by omega, by simp; omega, rfl, rfl, rfl⟩
    case round =>
      obtain ⟨k, c, hk, hc0, hc1, rfl, rfl, HV⟩ := hrel
      have P := pow64 (k := k) (by omega)
      have PS : Hid ((64 : Int) ^ (k + 1) = 64 ^ k * 64) := Int.pow_succ 64 k
      generalize (64 : Int) ^ k = q at *
      by_cases hlt : k < 2
      · have hkz : (k : Int) + 1 < s.size := by omega
        have hks : k + 1 < s.size := by omega
        have hd := drop_at s (k + 1) hks
        have hmk : 2 - k = (2 - (k + 1)) + 1 := by omega
        have HD : Hid (foldC ((2 - (k + 1)) + 1) c (s[k + 1] :: s.data.toList.drop (k + 1 + 1)) = foldC 2 ((s[0].toNat : Int) - 224) (s.data.toList.drop 1)) := by show _ = _; rw [← HV.out, hmk, hd]
        clear hd hmk
        have b1 := s[k + 1].toNat_lt
        by_cases h3 : (s[k + 1].toNat : Int) < 128
        · have E : Hid (r = (1, -1)) := by show _ = _; rw [← HR.out]; exact cont_none (by rw [← HD.out]; exact foldC_none (by omega))
          go_wp2
          go_ret2
          exact ⟨ret_pair (by rw [E.out]; rfl) (by rw [E.out]), rfl⟩
        · by_cases h4 : (191 : Int) < s[k + 1].toNat
          · have E : Hid (r = (1, -1)) := by show _ = _; rw [← HR.out]; exact cont_none (by rw [← HD.out]; exact foldC_none (by omega))
            go_wp2
            go_ret2
            exact ⟨ret_pair (by rw [E.out]; rfl) (by rw [E.out]), rfl⟩
          · have E : Hid (foldC (2 - (k + 1)) (64 * c + s[k + 1].toNat - 128) (s.data.toList.drop (k + 1 + 1)) = foldC 2 ((s[0].toNat : Int) - 224) (s.data.toList.drop 1)) := by show _ = _; rw [← HD.out, foldC_step (by omega)]
            go_wp2
            go_round
            case rel => exact ⟨k + 1, 64 * c + s[k + 1].toNat - 128, by omega, by omega, by rw [PS.out]; omega, rfl, by congr 1, E⟩
            case measure => simp [intOf]; omega
      · obtain rfl : k = 2 := by omega
        have hV : foldC 2 ((s[0].toNat : Int) - 224) (s.data.toList.drop 1) = some c := by rw [← HV.out]; rfl
        rw [show ((2 : Nat) : Int) = 2 from rfl]
        by_cases hb : badC 2048 c
        · have E : Hid (r = (1, -1)) := by show _ = _; rw [← HR.out]; exact cont_bad hV hb
          have hb' : c < 2048 ∨ (2048 ≤ c ∧ 1114111 < c) ∨ (2048 ≤ c ∧ 55296 ≤ c ∧ c < 57344) := by unfold badC at hb; omega
          clear hb hV
          rcases hb' with h5 | ⟨h5, h6⟩ | ⟨h5, h6, h7⟩
          all_goals go_wp2
          all_goals go_ret2
          all_goals exact ⟨ret_pair (by rw [E.out]; rfl) (by rw [E.out]), rfl⟩
        · have E : Hid (r = (2 + 1, c)) := by show _ = _; rw [← HR.out]; exact cont_ok hV hb
          have hb' : 2048 ≤ c ∧ c ≤ 1114111 ∧ (c < 55296 ∨ (55296 ≤ c ∧ 57344 ≤ c)) := by unfold badC at hb; omega
          clear hb hV
          obtain ⟨h5, h6, h7 | ⟨h7, h8⟩⟩ := hb'
          all_goals go_wp2
          all_goals go_ret2
          all_goals exact ⟨ret_pair (by rw [E.out]; rfl) (by rw [E.out]), rfl⟩

set_option maxRecDepth 100000 in
set_option maxHeartbeats 2000000 in
theorem rone_3 (s : ByteArray) (hs : 0 < s.size) (h1 : (240 : Int) ≤ s[0].toNat) (h2 : (s[0].toNat : Int) < 248) (hm : s.size ≤ 9223372036854775807) (w : World) :
    Calls Tryd.prog 40 #[.string s] w fun e w' => e = .returned (.tuple #[.int .i64 ((contT 3 65536 ((s[0].toNat : Int) - 240) (s.data.toList.drop 1)).1 : Nat), .int .i64 (contT 3 65536 ((s[0].toNat : Int) - 240) (s.data.toList.drop 1)).2]) ∧ w = w' := by
  obtain ⟨r, hr⟩ : ∃ r, contT 3 65536 ((s[0].toNat : Int) - 240) (s.data.toList.drop 1) = r := ⟨_, rfl⟩
  rw [hr]
  have HR := Lib.hid hr
  clear hr
  have hsz : (0 : Int) < s.size := by omega
  have b0 := s[0].toNat_lt
  by_cases hlen : s.size < 3 + 1
  · have E : Hid (r = (1, -1)) := by show _ = _; rw [← HR.out]; exact cont_short (by simp; omega)
    have hlz : (s.size : Int) < 4 := by omega
    clear hlen
    go_enter Tryd.func40, Tryd.ntmps40
    go_wp2
    go_ret2
    exact ⟨ret_pair (by rw [E.out]; rfl) (by rw [E.out]), rfl⟩
  · have hlz : (4 : Int) ≤ s.size := by omega
    go_enter Tryd.func40, Tryd.ntmps40
    go_wp2
    go_loop [4, 7] (fun s4 s7 => ∃ (k : Nat) (c : Int), k ≤ 3 ∧ 0 ≤ c ∧ c < 32 * 64 ^ k ∧ s4 = .int .i64 c ∧ s7 = .int .i64 ((k : Int) + 1) ∧ Hid (foldC (3 - k) c (s.data.toList.drop (k + 1)) = foldC 3 ((s[0].toNat : Int) - 240) (s.data.toList.drop 1))) (fun _ s7 => 5 - (intOf s7).toNat)
    case atStart => exact ⟨0, _, by omega, by omega, by simp; omega, rfl, rfl, rfl⟩
    case round =>
      obtain ⟨k, c, hk, hc0, hc1, rfl, rfl, HV⟩ := hrel
      have P := pow64 (k := k) (by omega)
      have PS : Hid ((64 : Int) ^ (k + 1) = 64 ^ k * 64) := Int.pow_succ 64 k
      generalize (64 : Int) ^ k = q at *
      by_cases hlt : k < 3
      · have hkz : (k : Int) + 1 < s.size := by omega
        have hks : k + 1 < s.size := by omega
        have hd := drop_at s (k + 1) hks
        have hmk : 3 - k = (3 - (k + 1)) + 1 := by omega
        have HD : Hid (foldC ((3 - (k + 1)) + 1) c (s[k + 1] :: s.data.toList.drop (k + 1 + 1)) = foldC 3 ((s[0].toNat : Int) - 240) (s.data.toList.drop 1)) := by show _ = _; rw [← HV.out, hmk, hd]
        clear hd hmk
        have b1 := s[k + 1].toNat_lt
        by_cases h3 : (s[k + 1].toNat : Int) < 128
        · have E : Hid (r = (1, -1)) := by show _ = _; rw [← HR.out]; exact cont_none (by rw [← HD.out]; exact foldC_none (by omega))
          go_wp2
          go_ret2
          exact ⟨ret_pair (by rw [E.out]; rfl) (by rw [E.out]), rfl⟩
        · by_cases h4 : (191 : Int) < s[k + 1].toNat
          · have E : Hid (r = (1, -1)) := by show _ = _; rw [← HR.out]; exact cont_none (by rw [← HD.out]; exact foldC_none (by omega))
            go_wp2
            go_ret2
            exact ⟨ret_pair (by rw [E.out]; rfl) (by rw [E.out]), rfl⟩
          · have E : Hid (foldC (3 - (k + 1)) (64 * c + s[k + 1].toNat - 128) (s.data.toList.drop (k + 1 + 1)) = foldC 3 ((s[0].toNat : Int) - 240) (s.data.toList.drop 1)) := by show _ = _; rw [← HD.out, foldC_step (by omega)]
            go_wp2
            go_round
            case rel => exact ⟨k + 1, 64 * c + s[k + 1].toNat - 128, by omega, by omega, by rw [PS.out]; omega, rfl, by congr 1, E⟩
            case measure => simp [intOf]; omega
      · obtain rfl : k = 3 := by omega
        have hV : foldC 3 ((s[0].toNat : Int) - 240) (s.data.toList.drop 1) = some c := by rw [← HV.out]; rfl
        rw [show ((3 : Nat) : Int) = 3 from rfl]
        by_cases hb : badC 65536 c
        · have E : Hid (r = (1, -1)) := by show _ = _; rw [← HR.out]; exact cont_bad hV hb
          have hb' : c < 65536 ∨ (65536 ≤ c ∧ 1114111 < c) ∨ (65536 ≤ c ∧ 55296 ≤ c ∧ c < 57344) := by unfold badC at hb; omega
          clear hb hV
          rcases hb' with h5 | ⟨h5, h6⟩ | ⟨h5, h6, h7⟩
          all_goals go_wp2
          all_goals go_ret2
          all_goals exact ⟨ret_pair (by rw [E.out]; rfl) (by rw [E.out]), rfl⟩
        · have E : Hid (r = (3 + 1, c)) := by show _ = _; rw [← HR.out]; exact cont_ok hV hb
          have hb' : 65536 ≤ c ∧ c ≤ 1114111 ∧ (c < 55296 ∨ (55296 ≤ c ∧ 57344 ≤ c)) := by unfold badC at hb; omega
          clear hb hV
          obtain ⟨h5, h6, h7 | ⟨h7, h8⟩⟩ := hb'
          all_goals go_wp2
          all_goals go_ret2
          all_goals exact ⟨ret_pair (by rw [E.out]; rfl) (by rw [E.out]), rfl⟩

set_option maxRecDepth 100000 in
theorem rone_any (s : ByteArray) (hs : 0 < s.size) (hm : s.size ≤ 9223372036854775807) (w : World) :
    Calls Tryd.prog 40 #[.string s] w fun e w' => e = .returned (.tuple #[.int .i64 ((oneT s.data.toList).1 : Nat), .int .i64 (oneT s.data.toList).2]) ∧ w = w' := by
  have hd := drop_at s 0 hs
  rw [List.drop_zero] at hd
  rw [hd]
  have b0 := s[0].toNat_lt
  have hsz : (0 : Int) < s.size := by omega
  simp only [oneT]
  by_cases h1 : s[0].toNat < 128
  · rw [if_pos h1]
    have h1z : (s[0].toNat : Int) < 128 := by omega
    clear hd
    go_enter Tryd.func40, Tryd.ntmps40
    go_wp2
    go_ret2
    exact ⟨rfl, rfl⟩
  rw [if_neg h1]
  by_cases h2 : 192 ≤ s[0].toNat ∧ s[0].toNat < 224
  · rw [if_pos h2]; exact rone_1 s hs (by omega) (by omega) hm w
  rw [if_neg h2]
  by_cases h3 : 224 ≤ s[0].toNat ∧ s[0].toNat < 240
  · rw [if_pos h3]; exact rone_2 s hs (by omega) (by omega) hm w
  rw [if_neg h3]
  by_cases h4 : 240 ≤ s[0].toNat ∧ s[0].toNat < 248
  · rw [if_pos h4]; exact rone_3 s hs (by omega) (by omega) hm w
  rw [if_neg h4]
  clear hd
  have h' : (128 ≤ (s[0].toNat : Int) ∧ (s[0].toNat : Int) < 192) ∨ 248 ≤ (s[0].toNat : Int) := by omega
  clear h1 h2 h3 h4
  rcases h' with ⟨h5, h6⟩ | h5
  all_goals
    go_enter Tryd.func40, Tryd.ntmps40
    go_wp2
    go_ret2
    exact ⟨rfl, rfl⟩
end Go.Proofs.YtdokniohjdlmfaaDoor
