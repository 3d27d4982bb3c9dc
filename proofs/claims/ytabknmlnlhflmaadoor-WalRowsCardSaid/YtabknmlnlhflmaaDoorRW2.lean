/- Contracts of the program's sums of bytes. -/
import Derived.Test.YtabknmlnlhflmaaDoorRows
import Derived.Test.YtabknmlnlhflmaaDoorRMath3
import Derived.Test.YtabknmlnlhflmaaDoorRW1
import Derived.Test.YtabknmlnlhflmaaDoorBK
import Derived.Laws.BitsAll
import Derived.Lib.LaidTab
namespace Go.Proofs.YtabknmlnlhflmaaDoor
open Go.ChangeShapes Go.WideShapes Go.ChangeAt Go.RowKit Rc

/-- What the program's table holds. -/
def Halves (w : World) : Prop := ∀ i, i < 16 → w.cell? ⟨0, i, none⟩ = some (.int .u32 (stps 4 i : Nat))
theorem Halves.below {w w' : World} (h : Halves w) (hb : Below w.heap.size w w') : Halves w' := fun i hi => cell_old (h i hi) hb
theorem Halves.alloc {w : World} (h : Halves w) (o : Obj) : Halves (w.alloc o) := h.below ((Below.refl _ w).alloc (Nat.le_refl _) o)
theorem Halves.gr {w : World} (h : Halves w) (g : Gr w) : Halves g.val := h.below g.ok

theorem shiftHalf_any (r : Nat) (hr : r < 4294967296) (w : World) (hH : Halves w) :
    Calls Tryd.prog 43 #[.int .u32 r] w fun e w' => e = .returned (.int .u32 (stps 4 r : Nat)) ∧ w = w' := by
  have h1 : bits .and .u32 (r : Int) 15 = ((r % 16 : Nat) : Int) := by
    rw [show (15 : Int) = ((15 : Nat) : Int) from rfl, u32_and_nat r 15 hr (by omega), show (15 : Nat) = 2 ^ 4 - 1 from rfl, Nat.and_two_pow_sub_one_eq_mod]
  have h16 : r % 16 < 16 := Nat.mod_lt _ (by omega)
  have hc := hH (r % 16) h16
  have hq : stps 4 (r % 16) < 4294967296 := stps_lt 4 (by omega)
  have E : Hid (stps 4 r = (r / 16) ^^^ stps 4 (r % 16)) := half r
  clear hH
  generalize r % 16 = m at *
  generalize stps 4 m = q at *
  have hx : bits .xor .u32 ((r : Int) / 16) (q : Int) = ((r / 16 ^^^ q : Nat) : Int) := by
    rw [show (r : Int) / 16 = ((r / 16 : Nat) : Int) by omega]
    exact u32_xor_nat (r / 16) q (by omega) hq
  go_enter Tryd.func43, Tryd.ntmps43
  go_wp2
  go_ret
  exact ⟨ret_int (by rw [E.out]), rfl⟩

theorem bn_take (l : List UInt8) (k : Nat) (h : k < l.length) : bn (l.take (k + 1)) = bn (l.take k) ++ [l[k].toNat] := by
  rw [List.take_succ_eq_append_getElem h, bn, List.map_append]; rfl
theorem u32_turn (r : Nat) (hr : r < 4294967296) : bits .xor .u32 IntKind.u32.max (r : Int) = ((4294967295 - r : Nat) : Int) := by
  have h := u32_xor_nat 4294967295 r (by omega) hr
  rw [Nat.xor_comm, turned hr] at h
  exact h

theorem more_any (r : Nat) (hr : r < 4294967296) (l : List UInt8) (A : Option Addr) (c : Nat) (hl : l.length ≤ 9223372036854775807) (w : World) (hB : BAt w A l) (hH : Halves w) :
    Calls Tryd.prog 41 #[.int .u32 r, .slice A l.length c] w fun e w' => e = .returned (.int .u32 (more r (bn l) : Nat)) ∧ w = w' := by
  have HB := Lib.hid hB
  have HH := Lib.hid hH
  have hT := u32_turn r hr
  clear hB hH
  have E : Hid (more r (bn l) = 4294967295 - run (4294967295 - r) (bn l)) := rfl
  have hq : 4294967295 - r < 4294967296 := by omega
  go_enter Tryd.func41, Tryd.ntmps41
  go_wp2
  clear hT
  generalize 4294967295 - r = t at *
  go_loop [5, 12] (fun s5 s12 => ∃ (k q : Nat), k ≤ l.length ∧ s5 = .int .u32 q ∧ s12 = .int .i64 k ∧ q < 4294967296 ∧ Hid (q = run t (bn (l.take k)))) (fun _ s12 => l.length - (intOf s12).toNat)
  case atStart => exact ⟨0, t, Nat.zero_le _, rfl, rfl, hq, rfl⟩
  case round =>
    obtain ⟨k, q, hk, rfl, rfl, hq, HQ⟩ := hrel
    by_cases hlt : k < l.length
    · have hkz : (k : Int) < l.length := by omega
      obtain ⟨b, off, rfl, hbs, hc⟩ := HB.out.at_ hlt
      have b1 := l[k].toNat_lt
      have HT : Hid (run t (bn (l.take (k + 1))) = stps 4 (stps 4 (q ^^^ l[k].toNat))) := by
        show _ = _
        rw [bn_take l k hlt, run_append, ← byt_halves, HQ.out]; rfl
      have hx : q ^^^ l[k].toNat < 4294967296 := Nat.xor_lt_two_pow (n := 32) hq (by omega)
      have hX : bits .xor .u32 (q : Int) (l[k].toNat : Int) = ((q ^^^ l[k].toNat : Nat) : Int) := u32_xor_nat q _ hq (by omega)
      generalize l[k].toNat = d at *
      generalize q ^^^ d = x at *
      have S1 := Lib.hid (shiftHalf_any x hx w HH.out)
      have hy : stps 4 x < 4294967296 := stps_lt 4 hx
      generalize stps 4 x = y at *
      have S2 := Lib.hid (shiftHalf_any y hy w HH.out)
      have hz : stps 4 y < 4294967296 := stps_lt 4 hy
      generalize stps 4 y = z at *
      go_wp2_with fail
      go_at_call 43
      refine S1.out.mono ?_
      rintro e w' ⟨rfl, rfl⟩
      go_wp2_with fail
      go_at_call 43
      refine S2.out.mono ?_
      rintro e w' ⟨rfl, rfl⟩
      go_wp2_with fail
      go_round
      case rel => exact ⟨k + 1, z, hlt, rfl, by go_num, hz, HT.out.symm⟩
      case measure => simp [intOf]; omega
    · obtain rfl : k = l.length := by omega
      have F : Hid (more r (bn l) = 4294967295 - q) := by show _ = _; rw [E.out, HQ.out, List.take_of_length_le (Nat.le_refl _)]
      have hT := u32_turn q hq
      go_wp2
      go_ret
      exact ⟨ret_int (by rw [F.out]), rfl⟩

theorem sum_any (l : List UInt8) (A : Option Addr) (c : Nat) (hl : l.length ≤ 9223372036854775807) (w : World) (hB : BAt w A l) (hH : Halves w) :
    Calls Tryd.prog 35 #[.slice A l.length c] w fun e w' => e = .returned (.int .u32 (Rc.sum (bn l) : Nat)) ∧ w = w' := by
  have H := Lib.hid (more_any 0 (by omega) l A c hl w hB hH)
  rw [more_zero] at H
  clear hB hH
  go_enter Tryd.func35, Tryd.ntmps35
  go_wp2_with fail
  go_at_call 41
  refine H.out.mono ?_
  rintro e w' ⟨rfl, rfl⟩
  go_wp2_with fail
  go_ret
  exact ⟨rfl, rfl⟩

theorem more_n (r : Nat) (hr : r < 4294967296) (l : List UInt8) (n : Nat) (hn : l.length = n) (A : Option Addr) (c : Nat) (hl : n ≤ 9223372036854775807) (w : World) (hB : BAt w A l) (hH : Halves w) :
    Calls Tryd.prog 41 #[.int .u32 r, .slice A n c] w fun e w' => e = .returned (.int .u32 (more r (bn l) : Nat)) ∧ w = w' := by
  subst hn; exact more_any r hr l A c hl w hB hH
theorem sum_n (l : List UInt8) (n : Nat) (hn : l.length = n) (A : Option Addr) (c : Nat) (hl : n ≤ 9223372036854775807) (w : World) (hB : BAt w A l) (hH : Halves w) :
    Calls Tryd.prog 35 #[.slice A n c] w fun e w' => e = .returned (.int .u32 (Rc.sum (bn l) : Nat)) ∧ w = w' := by
  subst hn; exact sum_any l A c hl w hB hH
end Go.Proofs.YtabknmlnlhflmaaDoor
