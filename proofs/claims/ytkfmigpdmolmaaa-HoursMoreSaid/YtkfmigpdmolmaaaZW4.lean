/- Contracts: what is added, local time, the next turn; the program's and the document's. -/
import Derived.Test.YtkfmigpdmolmaaaZW3
namespace Go.Proofs.Ytkfmigpdmolmaaa
open Go.ChangeShapes Go.WideShapes Go.ChangeAt Go.RowKit Zn

theorem ZAt.alloc {w : World} {A : Option Addr} {z : Z} (h : ZAt w A z) (o : Obj) : ZAt (w.alloc o) A z := h.below ((Below.refl _ _).alloc (Nat.le_refl _) o)

theorem offs_no (w : World) (A : Option Addr) (z : Z) (c : Nat) (u : Int) (hw : ZWf z) (hz : ZAt w A z) (hm : mayB z = false) :
    Calls Try.prog 29 #[.agg #[.int .i64 z.base, .slice A z.n c], .int .i64 u] w fun e w' => e = .returned (.int .i64 0) ∧ Below w.heap.size w w' := by
  have HC := Lib.hid (zmay_any _ A z c hw (hz.alloc (.cells #[.int .i64 z.base, .slice A z.n c] 24)))
  clear hz hw
  go_enter Try.func29, Try.ntmps29
  go_wp2_with (go_at_call 21; (with_reducible refine HC.out.mono ?_); rintro e w' ⟨rfl, hb⟩; obtain ⟨g, rfl⟩ := Gr.of hb; clear hb)
  go_ret
  exact ⟨rfl, g.below1⟩

set_option maxHeartbeats 1000000 in
theorem offs_yes (w : World) (A : Option Addr) (z : Z) (c : Nat) (u : Int) (hw : ZWf z) (hz : ZAt w A z) (hp : mayP z) :
    Calls Try.prog 29 #[.agg #[.int .i64 z.base, .slice A z.n c], .int .i64 u] w fun e w' => e = .returned (.int .i64 (off z u)) ∧ Below w.heap.size w w' := by
  have HC := Lib.hid (zmay_any _ A z c hw (hz.alloc (.cells #[.int .i64 z.base, .slice A z.n c] 24)))
  have HZ := Lib.hid (Gr.layZ hz (.cells #[.int .i64 z.base, .slice A z.n c] 24))
  obtain ⟨F0, F1⟩ := Gr.lay2 w (.int .i64 z.base) (.slice A z.n c) 24
  have hm : mayB z = true := may_iff.2 hp
  have HP := Lib.hid hp
  have hn : z.n ≤ 1000 := by have := hp.2.2.1; omega
  rw [off_eq hp]
  clear hz hw hp
  go_enter Try.func29, Try.ntmps29
  go_wp2_with (go_at_call 21; (with_reducible refine HC.out.mono ?_); rintro e w' ⟨rfl, hb⟩; obtain ⟨g, rfl⟩ := Gr.of hb; clear hb)
  refine Gr.region (by kernel_rfl) (by kernel_rfl) g.draw ?_
  repeat (go_big_quiet_step ((first
    | (go_at_call 44; exact Gr.calls _ (fb_any _ _ z c u HP.out (HZ.out _)))
    | (go_at_call 46; exact Gr.calls _ (ahead_any _ _ z c (fb z u) (fb_le z u) hn (HZ.out _))))))
  refine wpQuiet_nil ?_
  rintro _ ⟨g, rfl⟩
  go_wp2
  go_ret
  exact ⟨rfl, g.below1⟩

def inB (u : Int) : Bool := decide (0 ≤ u ∧ u ≤ 158310720)
theorem inTime_b (x : Int) (w : World) :
    Calls Try.prog 40 #[.int .i64 x] w fun e w' => e = .returned (.bool (inB x)) ∧ w = w' := inTime_any x w

theorem local_no (w : World) (A : Option Addr) (z : Z) (c : Nat) (u : Int) (hw : ZWf z) (hz : ZAt w A z) (h : ¬ (inB u = true ∧ mayB z = true)) :
    Calls Try.prog 30 #[.agg #[.int .i64 z.base, .slice A z.n c], .int .i64 u] w fun e w' => e = .returned (.tuple #[.int .i64 0, .bool false]) ∧ Below w.heap.size w w' := by
  have HC := Lib.hid (zmay_any _ A z c hw (hz.alloc (.cells #[.int .i64 z.base, .slice A z.n c] 24)))
  clear hz hw
  cases hi : inB u with
  | false =>
    clear h
    go_enter Try.func30, Try.ntmps30
    go_wp2_with (first
      | (go_at_call 40; (with_reducible refine (inTime_b _ _).mono ?_); rintro e w' ⟨rfl, rfl⟩)
      | (go_at_call 21; (with_reducible refine HC.out.mono ?_); rintro e w' ⟨rfl, hb⟩; obtain ⟨g, rfl⟩ := Gr.of hb; clear hb))
    go_ret2
    exact ⟨rfl, (Below.refl _ _).alloc (Nat.le_refl _) _⟩
  | true =>
    have hm : mayB z = false := by simpa [hi] using h
    clear h
    go_enter Try.func30, Try.ntmps30
    go_wp2_with (first
      | (go_at_call 40; (with_reducible refine (inTime_b _ _).mono ?_); rintro e w' ⟨rfl, rfl⟩)
      | (go_at_call 21; (with_reducible refine HC.out.mono ?_); rintro e w' ⟨rfl, hb⟩; obtain ⟨g, rfl⟩ := Gr.of hb; clear hb))
    go_ret2
    exact ⟨rfl, g.below1⟩

set_option maxHeartbeats 1000000 in
theorem local_yes (w : World) (A : Option Addr) (z : Z) (c : Nat) (u : Int) (hw : ZWf z) (hz : ZAt w A z) (hi : inB u = true) (hp : mayP z) :
    Calls Try.prog 30 #[.agg #[.int .i64 z.base, .slice A z.n c], .int .i64 u] w fun e w' => e = .returned (.tuple #[.int .i64 (u + off z u), .bool true]) ∧ Below w.heap.size w w' := by
  have HC := Lib.hid (zmay_any _ A z c hw (hz.alloc (.cells #[.int .i64 z.base, .slice A z.n c] 24)))
  have HZ := Lib.hid (Gr.layZ hz (.cells #[.int .i64 z.base, .slice A z.n c] 24))
  obtain ⟨F0, F1⟩ := Gr.lay2 w (.int .i64 z.base) (.slice A z.n c) 24
  have hm : mayB z = true := may_iff.2 hp
  have HP := Lib.hid hp
  have hn : z.n ≤ 1000 := by have := hp.2.2.1; omega
  have ⟨u1, u2⟩ : 0 ≤ u ∧ u ≤ 158310720 := of_decide_eq_true hi
  have ⟨o1, o2⟩ := ah_bd hp (fb z u) (fb_le z u)
  rw [off_eq hp]
  clear hz hw hp
  go_enter Try.func30, Try.ntmps30
  go_wp2_with (first
    | (go_at_call 40; (with_reducible refine (inTime_b _ _).mono ?_); rintro e w' ⟨rfl, rfl⟩)
    | (go_at_call 21; (with_reducible refine HC.out.mono ?_); rintro e w' ⟨rfl, hb⟩; obtain ⟨g, rfl⟩ := Gr.of hb; clear hb))
  refine Gr.region (by kernel_rfl) (by kernel_rfl) g.draw ?_
  repeat (go_big_quiet_step ((first
    | (go_at_call 44; exact Gr.calls _ (fb_any _ _ z c u HP.out (HZ.out _)))
    | (go_at_call 46; exact Gr.calls _ (ahead_any _ _ z c (fb z u) (fb_le z u) hn (HZ.out _))))))
  refine wpQuiet_nil ?_
  rintro _ ⟨g, rfl⟩
  go_wp2
  go_ret2
  exact ⟨rfl, g.below1⟩

theorem next_no (w : World) (A : Option Addr) (z : Z) (c : Nat) (u : Int) (hw : ZWf z) (hz : ZAt w A z) (hm : mayB z = false) :
    Calls Try.prog 27 #[.agg #[.int .i64 z.base, .slice A z.n c], .int .i64 u] w fun e w' => e = .returned (.tuple #[.int .i64 0, .bool false]) ∧ Below w.heap.size w w' := by
  have HC := Lib.hid (zmay_any _ A z c hw (hz.alloc (.cells #[.int .i64 z.base, .slice A z.n c] 24)))
  clear hz hw
  go_enter Try.func27, Try.ntmps27
  go_wp2_with (go_at_call 21; (with_reducible refine HC.out.mono ?_); rintro e w' ⟨rfl, hb⟩; obtain ⟨g, rfl⟩ := Gr.of hb; clear hb)
  go_ret2
  exact ⟨rfl, g.below1⟩

theorem next_none (w : World) (A : Option Addr) (z : Z) (c : Nat) (u : Int) (hw : ZWf z) (hz : ZAt w A z) (hp : mayP z) (hf : fb z u = z.n) :
    Calls Try.prog 27 #[.agg #[.int .i64 z.base, .slice A z.n c], .int .i64 u] w fun e w' => e = .returned (.tuple #[.int .i64 0, .bool false]) ∧ Below w.heap.size w w' := by
  have HC := Lib.hid (zmay_any _ A z c hw (hz.alloc (.cells #[.int .i64 z.base, .slice A z.n c] 24)))
  have HZ := Lib.hid (Gr.layZ hz (.cells #[.int .i64 z.base, .slice A z.n c] 24))
  obtain ⟨F0, F1⟩ := Gr.lay2 w (.int .i64 z.base) (.slice A z.n c) 24
  have hm : mayB z = true := may_iff.2 hp
  have HP := Lib.hid hp
  have hq : ((fb z u : Int) == (z.n : Int)) = true := by simp; omega
  clear hz hw hp hf
  go_enter Try.func27, Try.ntmps27
  go_wp2_with (first
    | (go_at_call 21; (with_reducible refine HC.out.mono ?_); rintro e w' ⟨rfl, hb⟩; obtain ⟨g, rfl⟩ := Gr.of hb; clear hb)
    | (go_at_call 44; (with_reducible refine (fb_any _ _ z c u HP.out (HZ.out _)).mono ?_); rintro e w' ⟨rfl, hb⟩; obtain ⟨g2, rfl⟩ := g.on hb; clear hb))
  go_ret2
  exact ⟨rfl, g2.below1⟩

theorem next_some (w : World) (A : Option Addr) (z : Z) (c : Nat) (u : Int) (hw : ZWf z) (hz : ZAt w A z) (hp : mayP z) (hf : fb z u < z.n) :
    Calls Try.prog 27 #[.agg #[.int .i64 z.base, .slice A z.n c], .int .i64 u] w fun e w' => e = .returned (.tuple #[.int .i64 (z.t (fb z u)), .bool true]) ∧ Below w.heap.size w w' := by
  obtain ⟨b, of, rfl, hb, g1, g2⟩ := hz.at_ hf
  have HC := Lib.hid (zmay_any _ _ z c hw (hz.alloc (.cells #[.int .i64 z.base, .slice (some ⟨b, of, none⟩) z.n c] 24)))
  have HZ := Lib.hid (Gr.layZ hz (.cells #[.int .i64 z.base, .slice (some ⟨b, of, none⟩) z.n c] 24))
  obtain ⟨F0, F1⟩ := Gr.lay2 w (.int .i64 z.base) (.slice (some ⟨b, of, none⟩) z.n c) 24
  have hm : mayB z = true := may_iff.2 hp
  have HP := Lib.hid hp
  have hn : z.n ≤ 1000 := by have := hp.2.2.1; omega
  have hq : ((fb z u : Int) == (z.n : Int)) = false := by simp; omega
  have hf' : (fb z u : Int) < (z.n : Int) := by omega
  have e1 := Gr.layOld g1 (.cells #[.int .i64 z.base, .slice (some ⟨b, of, none⟩) z.n c] 24)
  clear hz hw hp g1 g2
  go_enter Try.func27, Try.ntmps27
  go_wp2_with (first
    | (go_at_call 21; (with_reducible refine HC.out.mono ?_); rintro e w' ⟨rfl, hb⟩; obtain ⟨g, rfl⟩ := Gr.of hb; clear hb)
    | (go_at_call 44; (with_reducible refine (fb_any _ _ z c u HP.out (HZ.out _)).mono ?_); rintro e w' ⟨rfl, hb⟩; obtain ⟨g2, rfl⟩ := g.on hb; clear hb))
  go_ret2
  exact ⟨rfl, g2.below1⟩

theorem roffs_any (w : World) (A : Option Addr) (z : Z) (c : Nat) (u : Int) (hn : z.n ≤ 9223372036854775807) (hz : ZAt w A z) :
    Calls Try.prog 36 #[.agg #[.int .i64 z.base, .slice A z.n c], .int .i64 u] w fun e w' => e = .returned (.int .i64 (off z u)) ∧ Below w.heap.size w w' := by
  have HZ := Lib.hid (hz.alloc (.cells #[.int .i64 z.base, .slice A z.n c] 24))
  clear hz
  have OT : Hid (off z u = offTo z u z.n) := rfl
  obtain ⟨r, hr⟩ : ∃ r, off z u = r := ⟨_, rfl⟩
  rw [hr]
  rw [hr] at OT
  clear hr
  go_enter Try.func36, Try.ntmps36
  go_wp2
  go_loop [5, 12] (fun s5 s => ∃ k : Nat, s5 = .int .i64 (offTo z u k) ∧ s = .int .i64 k ∧ k ≤ z.n) (fun _ s => (z.n - (intOf s).toNat))
  case atStart => exact ⟨0, rfl, rfl, Nat.zero_le _⟩
  case round =>
    obtain ⟨k, rfl, rfl, hk⟩ := hrel
    by_cases hlt : k < z.n
    · obtain ⟨b, off, rfl, hb, g1, g2⟩ := HZ.out.at_ hlt
      have hkz : (k : Int) < (z.n : Int) := by omega
      have LS : Hid (offTo z u (k + 1) = if z.t k ≤ u then z.o k else offTo z u k) := rfl
      by_cases d : z.t k ≤ u
      · go_wp2
        go_round
        case rel => exact ⟨k + 1, by rw [LS.out, if_pos d], by go_num, hlt⟩
        case measure => simp [intOf]; omega
      · go_wp2
        go_round
        case rel => exact ⟨k + 1, by rw [LS.out, if_neg d], by go_num, hlt⟩
        case measure => simp [intOf]; omega
    · obtain rfl : k = z.n := by omega
      go_wp2
      go_ret
      exact ⟨ret_int (by rw [OT.out]), (Below.refl _ _).alloc (Nat.le_refl _) _⟩

def nextI (z : Z) (u : Int) : Int := if fb z u < z.n then z.t (fb z u) else -1
end Go.Proofs.Ytkfmigpdmolmaaa
