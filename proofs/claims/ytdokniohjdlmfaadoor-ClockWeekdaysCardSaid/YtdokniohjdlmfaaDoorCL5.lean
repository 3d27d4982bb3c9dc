/- The laws' walks: weekdays. -/
import Derived.Test.YtdokniohjdlmfaaDoorCW12
import Derived.Test.YtdokniohjdlmfaaDoorCW8
import Derived.Test.YtdokniohjdlmfaaDoorCW3
namespace Go.Proofs.YtdokniohjdlmfaaDoor
open Go.ChangeShapes Go.WideShapes Go.ChangeAt Go.RowKit Ck

structure EnvN (w : World) : Prop where
  env : Env w
  names : Names w
theorem EnvN.below {w w' : World} (h : EnvN w) (hb : Below w.heap.size w w') : EnvN w' := ⟨h.env.below hb, h.names.below hb⟩
theorem EnvN.gr {w : World} (h : EnvN w) (g : Gr w) : EnvN g.val := h.below g.ok

theorem readwd_any (s : ByteArray) (hsz : s.size ≤ 1000000) (w : World) (hE : EnvN w) :
    Calls Tryd.prog 21 #[.string s] w fun e W' => e = .returned (.tuple #[.int .i64 (if wdT (readW s.data.toList : Int) = s.data.toList then (readW s.data.toList : Int) else 0), .bool (decide (wdT (readW s.data.toList : Int) = s.data.toList))]) ∧ Below w.heap.size w W' :=
  callsIn_wide.1 (readwd_in s hsz w hE.names hE.env)
theorem readwd_yes (s : ByteArray) (hsz : s.size ≤ 1000000) (k : Nat) (hk : k < 128) (h : wdT (k : Int) = s.data.toList) (w : World) (hE : EnvN w) :
    Calls Tryd.prog 21 #[.string s] w fun e W' => e = .returned (.tuple #[.int .i64 k, .bool true]) ∧ Below w.heap.size w W' := by
  have := readwd_any s hsz w hE
  have hr : readW s.data.toList = k := by rw [← h]; exact read_wd ⟨k, hk⟩
  rw [hr, if_pos h, decide_eq_true h] at this
  exact this
theorem readwd_no (s : ByteArray) (hsz : s.size ≤ 1000000) (h : ∀ j : Nat, j < 128 → wdT (j : Int) ≠ s.data.toList) (w : World) (hE : EnvN w) :
    Calls Tryd.prog 21 #[.string s] w fun e W' => e = .returned (.tuple #[.int .i64 0, .bool false]) ∧ Below w.heap.size w W' := by
  have := readwd_any s hsz w hE
  have hn := h (readW s.data.toList) (rsN_bd _ _)
  rw [if_neg hn, decide_eq_false hn] at this
  exact this

set_option maxRecDepth 100000 in
set_option maxHeartbeats 4000000 in
theorem clockWeekdays_walk (n : Int) (t : ByteArray) (w : World) (hE : EnvN w) :
    Calls Tryd.prog 5 #[.int .i64 n, .string t] w fun e w' => e = .returned (.bool true) ∧ Below w.heap.size w w' := by
  have HE := Lib.hid hE
  clear hE
  by_cases ht : 1000 < t.size
  · have htz : (1000 : Int) < t.size := by omega
    have HF := Lib.hid (fixed3_any w HE.out.env)
    go_enter Tryd.func5, Tryd.ntmps5
    go_wp2_with fail
    go_at_call 10
    refine HF.out.mono ?_
    rintro e w' ⟨rfl, hb⟩
    go_wp2_with fail
    go_ret
    exact ⟨rfl, hb⟩
  have htz : decide ((1000 : Int) < t.size) = false := decide_eq_false (by omega)
  have hts : t.size ≤ 1000000 := by omega
  have HK := Lib.hid (fun k h0 h1 w => rweekdays_any k h0 h1 w)
  have HY := Lib.hid (fun k hk h w hE => readwd_yes t hts k hk h w hE)
  have HNo := Lib.hid (fun h w hE => readwd_no t hts h w hE)
  by_cases hn : n < 0 ∨ 127 < n
  · have HM := Lib.hid (fun w => weekdays_no n hn w)
    have hq : (decide (0 ≤ n) = false ∧ decide (n < 0) = true) ∨ (decide (0 ≤ n) = true ∧ decide (n < 128) = false) := by
      rcases hn with h | h
      · exact .inl ⟨decide_eq_false (by omega), decide_eq_true h⟩
      · exact .inr ⟨decide_eq_true (by omega), decide_eq_false (by omega)⟩
    clear hn
    rcases hq with ⟨q0, q1⟩ | ⟨q0, q1⟩
    all_goals
      go_enter Tryd.func5, Tryd.ntmps5
      go_wp2_with fail
      go_at_call 19
      refine (HM.out _).mono ?_
      rintro e w' ⟨rfl, rfl⟩
      go_wp2_with fail
      go_loopw [8, 47] (fun s8 s47 wr => ∃ (g : Gr w) (k : Nat) (z : Int), wr = g.val ∧ k ≤ 128 ∧ s8 = .int .i64 z ∧ s47 = .int .i64 k ∧ Hid ((z = -1 ∧ ∀ j : Nat, j < k → wdT (j : Int) ≠ t.data.toList) ∨ (∃ m : Nat, m < 128 ∧ z = m ∧ wdT (m : Int) = t.data.toList))) (fun _ s47 _ => 128 - (intOf s47).toNat)
      case atStart => exact ⟨⟨w, Below.refl _ _⟩, 0, -1, rfl, by omega, rfl, rfl, .inl ⟨rfl, fun j hj => absurd hj (Nat.not_lt_zero _)⟩⟩
      case round =>
        obtain ⟨g, k, z, rfl, hk, rfl, rfl, HZ⟩ := hrel
        by_cases hlt : k < 128
        · have hkz : (k : Int) < 128 := by omega
          by_cases h : wdT (k : Int) = t.data.toList
          · have HZ' : Hid (((k : Int) = -1 ∧ ∀ j : Nat, j < k + 1 → wdT (j : Int) ≠ t.data.toList) ∨ (∃ m : Nat, m < 128 ∧ (k : Int) = m ∧ wdT (m : Int) = t.data.toList)) := .inr ⟨k, hlt, rfl, h⟩
            have hb : (wdT (k : Int) == t.toList) = true := by rw [ByteArray.toList_eq]; simpa using h
            clear h
            go_wp2_with fail
            go_at_call 20
            refine (HK.out (k : Int) (by omega) (by omega) _).mono ?_
            rintro e w' ⟨rfl, hb⟩; obtain ⟨g, rfl⟩ := g.on hb; clear hb
            go_wp2_with fail
            go_roundw
            case rel => exact ⟨g, k + 1, k, rfl, hlt, rfl, by go_num, HZ'⟩
            case measure => simp [intOf]; omega
          · have HZ' : Hid ((z = -1 ∧ ∀ j : Nat, j < k + 1 → wdT (j : Int) ≠ t.data.toList) ∨ (∃ m : Nat, m < 128 ∧ z = m ∧ wdT (m : Int) = t.data.toList)) := by
              rcases HZ.out with ⟨h1, h2⟩ | h1
              · refine .inl ⟨h1, fun j hj => ?_⟩
                by_cases e : j = k
                · subst e; exact h
                · exact h2 j (by omega)
              · exact .inr h1
            have hb : (wdT (k : Int) == t.toList) = false := by rw [ByteArray.toList_eq]; simpa using h
            clear h
            go_wp2_with fail
            go_at_call 20
            refine (HK.out (k : Int) (by omega) (by omega) _).mono ?_
            rintro e w' ⟨rfl, hb⟩; obtain ⟨g, rfl⟩ := g.on hb; clear hb
            go_wp2_with fail
            go_roundw
            case rel => exact ⟨g, k + 1, z, rfl, hlt, rfl, by go_num, HZ'⟩
            case measure => simp [intOf]; omega
        · obtain rfl : k = 128 := by omega
          rw [show ((128 : Nat) : Int) = 128 from rfl]
          rcases HZ.out with ⟨rfl, h2⟩ | ⟨m, hm, rfl, hw⟩
          · have HX := Lib.hid (fun w hE => HNo.out h2 w hE)
            clear h2
            go_wp2_with fail
            go_at_call 21
            refine (HX.out _ (HE.out.gr g)).mono ?_
            rintro e w' ⟨rfl, hb⟩; obtain ⟨g, rfl⟩ := g.on hb; clear hb
            go_wp2_with fail
            go_at_call 10
            refine (fixed3_any _ (HE.out.gr g).env).mono ?_
            rintro e w' ⟨rfl, hb⟩; obtain ⟨g, rfl⟩ := g.on hb; clear hb
            go_wp2_with fail
            go_ret
            exact ⟨rfl, g.ok⟩
          · have HX := Lib.hid (fun w hE => HY.out m hm hw w hE)
            have hm0 : decide ((0 : Int) ≤ m) = true := decide_eq_true (by omega)
            clear hw
            go_wp2_with fail
            go_at_call 21
            refine (HX.out _ (HE.out.gr g)).mono ?_
            rintro e w' ⟨rfl, hb⟩; obtain ⟨g, rfl⟩ := g.on hb; clear hb
            go_wp2_with fail
            go_at_call 10
            refine (fixed3_any _ (HE.out.gr g).env).mono ?_
            rintro e w' ⟨rfl, hb⟩; obtain ⟨g, rfl⟩ := g.on hb; clear hb
            go_wp2_with fail
            go_ret
            exact ⟨rfl, g.ok⟩
  · have hn0 : 0 ≤ n := by omega
    have hn1 : n < 128 := by omega
    have HM := Lib.hid (fun w hE => weekdays_yes n hn0 hn1 w hE)
    have HD := Lib.hid (fun w => rweekdays_any n hn0 hn1 w)
    have q0 : decide (0 ≤ n) = true := decide_eq_true hn0
    have q1 : decide (n < 128) = true := decide_eq_true hn1
    have hml : (wdT n).length ≤ 30 := by
      have := wd_len n 7
      unfold wdT; split
      · simp
      · omega
    generalize wdT n = mt at *
    go_enter Tryd.func5, Tryd.ntmps5
    go_wp2_with fail
    go_at_call 19
    refine (HM.out _ HE.out.names).mono ?_
    rintro e w' ⟨rfl, hb⟩; obtain ⟨g, rfl⟩ := Gr.of hb; clear hb
    go_wp2_with fail
    go_at_call 20
    refine (HD.out _).mono ?_
    rintro e w' ⟨rfl, hb⟩; obtain ⟨g, rfl⟩ := g.on hb; clear hb
    go_wp2_with fail
    go_loopw [8, 47] (fun s8 s47 wr => ∃ (g : Gr w) (k : Nat) (z : Int), wr = g.val ∧ k ≤ 128 ∧ s8 = .int .i64 z ∧ s47 = .int .i64 k ∧ Hid ((z = -1 ∧ ∀ j : Nat, j < k → wdT (j : Int) ≠ t.data.toList) ∨ (∃ m : Nat, m < 128 ∧ z = m ∧ wdT (m : Int) = t.data.toList))) (fun _ s47 _ => 128 - (intOf s47).toNat)
    case atStart => exact ⟨g, 0, -1, rfl, by omega, rfl, rfl, .inl ⟨rfl, fun j hj => absurd hj (Nat.not_lt_zero _)⟩⟩
    case round =>
      obtain ⟨g, k, z, rfl, hk, rfl, rfl, HZ⟩ := hrel
      by_cases hlt : k < 128
      · have hkz : (k : Int) < 128 := by omega
        by_cases h : wdT (k : Int) = t.data.toList
        · have HZ' : Hid (((k : Int) = -1 ∧ ∀ j : Nat, j < k + 1 → wdT (j : Int) ≠ t.data.toList) ∨ (∃ m : Nat, m < 128 ∧ (k : Int) = m ∧ wdT (m : Int) = t.data.toList)) := .inr ⟨k, hlt, rfl, h⟩
          have hb : (wdT (k : Int) == t.toList) = true := by rw [ByteArray.toList_eq]; simpa using h
          clear h
          go_wp2_with fail
          go_at_call 20
          refine (HK.out (k : Int) (by omega) (by omega) _).mono ?_
          rintro e w' ⟨rfl, hb⟩; obtain ⟨g, rfl⟩ := g.on hb; clear hb
          go_wp2_with fail
          go_roundw
          case rel => exact ⟨g, k + 1, k, rfl, hlt, rfl, by go_num, HZ'⟩
          case measure => simp [intOf]; omega
        · have HZ' : Hid ((z = -1 ∧ ∀ j : Nat, j < k + 1 → wdT (j : Int) ≠ t.data.toList) ∨ (∃ m : Nat, m < 128 ∧ z = m ∧ wdT (m : Int) = t.data.toList)) := by
            rcases HZ.out with ⟨h1, h2⟩ | h1
            · refine .inl ⟨h1, fun j hj => ?_⟩
              by_cases e : j = k
              · subst e; exact h
              · exact h2 j (by omega)
            · exact .inr h1
          have hb : (wdT (k : Int) == t.toList) = false := by rw [ByteArray.toList_eq]; simpa using h
          clear h
          go_wp2_with fail
          go_at_call 20
          refine (HK.out (k : Int) (by omega) (by omega) _).mono ?_
          rintro e w' ⟨rfl, hb⟩; obtain ⟨g, rfl⟩ := g.on hb; clear hb
          go_wp2_with fail
          go_roundw
          case rel => exact ⟨g, k + 1, z, rfl, hlt, rfl, by go_num, HZ'⟩
          case measure => simp [intOf]; omega
      · obtain rfl : k = 128 := by omega
        rw [show ((128 : Nat) : Int) = 128 from rfl]
        rcases HZ.out with ⟨rfl, h2⟩ | ⟨m, hm, rfl, hw⟩
        · have HX := Lib.hid (fun w hE => HNo.out h2 w hE)
          clear h2
          go_wp2_with fail
          go_at_call 21
          refine (HX.out _ (HE.out.gr g)).mono ?_
          rintro e w' ⟨rfl, hb⟩; obtain ⟨g, rfl⟩ := g.on hb; clear hb
          go_wp2_with fail
          go_at_call 10
          refine (fixed3_any _ (HE.out.gr g).env).mono ?_
          rintro e w' ⟨rfl, hb⟩; obtain ⟨g, rfl⟩ := g.on hb; clear hb
          go_wp2_with fail
          go_ret
          exact ⟨rfl, g.ok⟩
        · have HX := Lib.hid (fun w hE => HY.out m hm hw w hE)
          have hm0 : decide ((0 : Int) ≤ m) = true := decide_eq_true (by omega)
          clear hw
          go_wp2_with fail
          go_at_call 21
          refine (HX.out _ (HE.out.gr g)).mono ?_
          rintro e w' ⟨rfl, hb⟩; obtain ⟨g, rfl⟩ := g.on hb; clear hb
          go_wp2_with fail
          go_at_call 10
          refine (fixed3_any _ (HE.out.gr g).env).mono ?_
          rintro e w' ⟨rfl, hb⟩; obtain ⟨g, rfl⟩ := g.on hb; clear hb
          go_wp2_with fail
          go_ret
          exact ⟨rfl, g.ok⟩

theorem wrap_bit (x : Nat) (h : x < 7) : wrap64 (2 ^ x) = 2 ^ x := by
  have : x = 0 ∨ x = 1 ∨ x = 2 ∨ x = 3 ∨ x = 4 ∨ x = 5 ∨ x = 6 := by omega
  rcases this with rfl | rfl | rfl | rfl | rfl | rfl | rfl <;> simp [wrap64]

set_option maxRecDepth 100000 in
set_option maxHeartbeats 4000000 in
theorem clockSets_walk (a b : Int) (wa : (Lit.int .u8 a).wf = true) (wb : (Lit.int .u8 b).wf = true) (w : World) (hE : EnvN w) :
    Calls Tryd.prog 8 #[.int .u8 a, .int .u8 b] w fun e w' => e = .returned (.bool true) ∧ Below w.heap.size w w' := by
  have ha : 0 ≤ a ∧ a ≤ 255 := by simpa [Lit.wf, IntKind.min, IntKind.max, IntKind.signed, IntKind.bits] using wa
  have hb : 0 ≤ b ∧ b ≤ 255 := by simpa [Lit.wf, IntKind.min, IntKind.max, IntKind.signed, IntKind.bits] using wb
  obtain ⟨ha0, ha1⟩ := ha
  obtain ⟨hb0, hb1⟩ := hb
  have HE := Lib.hid hE
  clear hE wa wb
  obtain ⟨n, hn, hna⟩ : ∃ n : Nat, n < 128 ∧ a % 128 = n := ⟨(a % 128).toNat, by omega, by omega⟩
  obtain ⟨x, hx, hxb⟩ : ∃ x : Nat, x < 7 ∧ b % 7 = x := ⟨(b % 7).toNat, by omega, by omega⟩
  have hw := wrap_bit x hx
  have h1 := or_bit ⟨n, hn⟩ ⟨x, hx⟩
  have h2 := andnot_bit ⟨n, hn⟩ ⟨x, hx⟩
  obtain ⟨⟨hm0, hm1⟩, hlen⟩ := more_bit ⟨n, hn⟩ ⟨x, hx⟩
  simp only at h1 h2 hm0 hm1 hlen
  have H0 := Lib.hid (fun w hN => weekdays_yes ((n &&& (127 - 2 ^ x) : Nat) : Int) (by omega) (by omega) w hN)
  have H1 := Lib.hid (fun w hN => weekdays_yes ((n ||| 2 ^ x : Nat) : Int) (by omega) (by omega) w hN)
  have hl0 : (wdT ((n &&& (127 - 2 ^ x) : Nat) : Int)).length ≤ 30 := by
    have := wd_len ((n &&& (127 - 2 ^ x) : Nat) : Int) 7
    unfold wdT; split
    · simp
    · omega
  generalize wdT ((n &&& (127 - 2 ^ x) : Nat) : Int) = t0 at *
  generalize wdT ((n ||| 2 ^ x : Nat) : Int) = t1 at *
  generalize ((n &&& (127 - 2 ^ x) : Nat) : Int) = m0 at *
  generalize ((n ||| 2 ^ x : Nat) : Int) = m1 at *
  by_cases heq : t0 = [45]
  · rw [if_pos heq] at hlen
    have hq : (t0 == [45]) = true := by simpa using heq
    have hlz : ((t1.length : Int) == 2) = true := by simp; omega
    clear heq
    go_enter Tryd.func8, Tryd.ntmps8
    go_wp2_with fail
    go_at_call 19
    refine (H0.out _ HE.out.names).mono ?_
    rintro e w' ⟨rfl, hb⟩; obtain ⟨g, rfl⟩ := Gr.of hb; clear hb
    go_wp2_with fail
    go_at_call 19
    refine (H1.out _ (HE.out.gr g).names).mono ?_
    rintro e w' ⟨rfl, hb⟩; obtain ⟨g, rfl⟩ := g.on hb; clear hb
    go_wp2_with fail
    go_at_call 10
    refine (fixed3_any _ (HE.out.gr g).env).mono ?_
    rintro e w' ⟨rfl, hb⟩; obtain ⟨g, rfl⟩ := g.on hb; clear hb
    go_wp2_with fail
    go_ret
    exact ⟨rfl, g.ok⟩
  · rw [if_neg heq] at hlen
    have hq : (t0 == [45]) = false := by simpa using heq
    have hlz : ((t1.length : Int) == (t0.length : Int) + 3) = true := by simp; omega
    clear heq
    go_enter Tryd.func8, Tryd.ntmps8
    go_wp2_with fail
    go_at_call 19
    refine (H0.out _ HE.out.names).mono ?_
    rintro e w' ⟨rfl, hb⟩; obtain ⟨g, rfl⟩ := Gr.of hb; clear hb
    go_wp2_with fail
    go_at_call 19
    refine (H1.out _ (HE.out.gr g).names).mono ?_
    rintro e w' ⟨rfl, hb⟩; obtain ⟨g, rfl⟩ := g.on hb; clear hb
    go_wp2_with fail
    go_at_call 10
    refine (fixed3_any _ (HE.out.gr g).env).mono ?_
    rintro e w' ⟨rfl, hb⟩; obtain ⟨g, rfl⟩ := g.on hb; clear hb
    go_wp2_with fail
    go_ret
    exact ⟨rfl, g.ok⟩
end Go.Proofs.YtdokniohjdlmfaaDoor
